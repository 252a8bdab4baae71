package plain

import (
	"math"
	"strings"

	"keelson/api"
)

// WrongPaths gives texts that no path is.
func WrongPaths() []string {
	return []string{"", "a", "//", "/a/", "//a", "/a//b", "/.", "/..", "/a/..", "/\x00", "/thirteen-byte", "/a/b/c/d/e/f/g", "a/b", " /a", "/a/b/c/d/e/f/"}
}

// Odd gives numbers at the edges of what an int holds, and of what means something.
func Odd() []int {
	return []int{math.MinInt, math.MinInt + 1, math.MinInt32, -7, -1, 0, 1, 6, 7, 127, 128, 129, 767, 768, 769, 1 << 32, 1<<32 + 1, math.MaxInt32, math.MaxInt - 1, math.MaxInt}
}

// Text gives so many bytes, none of which is 0, of a kind.
func Text(n, kind int) []byte {
	b := make([]byte, n)
	for i := range b {
		b[i] = byte(1 + (i*7+i/128+kind*31)%255)
	}
	return b
}

// Some gives an operation that isn't OpSync, of which mostly something comes; pick gives a number from 0 to n - 1.
func (t *Tree) Some(pick func(n int) int) api.Op {
	o := api.Op{
		Kind: api.OpCreate + pick(api.OpSync-api.OpCreate),
		Path: t.path(pick),
		To:   t.path(pick),
		H:    1 + pick(3),
		Off:  number(pick),
		N:    number(pick),
	}
	switch pick(10) {
	case 0:
		o.Kind = api.OpOpen
	case 1, 2:
		o.Kind = api.OpWrite
	case 3:
		o.Kind = []int{api.OpCreate, api.OpMkdir}[pick(2)]
		o.Path = strings.TrimSuffix(o.Path, "/") + "/" + letter(pick)
	}
	if pick(10) == 0 {
		o.H = Odd()[pick(len(Odd()))]
	}
	if pick(10) > 0 {
		o.Data = Text(pick(1+max(0, min(number(pick), maxSize+12))), pick(99))
	}
	return o
}

// path gives a path, mostly one that is there, or one beneath one.
func (t *Tree) path(pick func(n int) int) string {
	paths := t.Paths()
	path := paths[pick(len(paths))]
	if pick(3) == 0 {
		path = "/" // the top fills up
	}
	if pick(3) == 0 {
		path = strings.TrimSuffix(path, "/") + "/" + letter(pick)
	}
	if pick(40) == 0 {
		return WrongPaths()[pick(len(WrongPaths()))]
	}
	return path
}

// letter gives one of a few names.
func letter(pick func(n int) int) string { return string(rune('a' + pick(10))) }

// number gives a number of bytes, or one that is none.
func number(pick func(n int) int) int {
	switch pick(8) {
	case 0:
		return Odd()[pick(len(Odd()))]
	case 1:
		return api.Chunk*pick(7) + pick(3) - 1
	}
	return pick(400)
}
