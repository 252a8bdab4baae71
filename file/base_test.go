package file_test

import (
	"bytes"
	"maps"
	"math"
	"math/rand"
	"slices"
	"testing"

	"keelson/api"
	"keelson/cache"
	"keelson/file"
)

// odd are numbers beyond what a call's numbers may be, or at their edges.
var odd = []int{math.MinInt, math.MinInt + 1, math.MinInt32, -769, -128, -1, 0, 25, 26, 256, 769, 1 << 32, 1<<32 + 1, math.MaxInt32, math.MaxInt - 768, math.MaxInt - 1, math.MaxInt}

// shelf is a source that hands out its nodes as they stand; of some keys it tells faults.
type shelf struct {
	nodes  map[int][]byte
	faults map[int]api.Errno
	limit  int
}

func (s *shelf) Node(key int) ([]byte, api.Errno) {
	if e := s.faults[key]; e != api.OK {
		return []byte("beside an error"), e
	}
	b, ok := s.nodes[key]
	if !ok {
		return nil, api.ErrNone
	}
	return b, api.OK
}

func (s *shelf) Live() api.Live { return lives(slices.Collect(maps.Keys(s.nodes))...) }

func (s *shelf) Limit() int { return s.limit }

// lives gives what nodes there are, of some keys, by layer 9's words.
func lives(keys ...int) api.Live {
	var l api.Live
	for _, key := range keys {
		l[key/8] |= 1 << (key % 8)
	}
	return l
}

// newShelf gives a shelf without nodes.
func newShelf(limit int) *shelf {
	return &shelf{nodes: map[int][]byte{}, faults: map[int]api.Errno{}, limit: limit}
}

// dir puts a directory, with the entry x of the inode 7, on a shelf.
func (s *shelf) dir(number int) { s.nodes[8*number] = []byte{2, 1, 7, 1, 'x'} }

// file puts a file of these bytes on a shelf.
func (s *shelf) file(number int, all []byte) {
	s.nodes[8*number] = []byte{1, byte(len(all)), byte(len(all) >> 8)}
	for k, chunk := range slices.Collect(slices.Chunk(all, 128)) {
		s.nodes[8*number+k+1] = bytes.Clone(chunk)
	}
}

// text gives so many bytes, none of which is 0.
func text(n int) []byte {
	b := make([]byte, n)
	for i := range b {
		b[i] = byte(1 + (i*7+i/128)%255)
	}
	return b
}

// plain is a cache with files by the chapter's words: a shelf of its nodes as they are.
type plain struct{ *shelf }

// node gives a node, and nothing beside an error.
func (p plain) node(key int) ([]byte, api.Errno) {
	b, e := p.Node(key)
	if e != api.OK {
		return nil, e
	}
	return b, api.OK
}

// clone gives a shelf of the same nodes.
func (s *shelf) clone() *shelf {
	return &shelf{maps.Clone(s.nodes), maps.Clone(s.faults), s.limit}
}

// get gives an inode, of the few kinds of bodies that stand in the tests.
func (p plain) get(number int) (api.Inode, api.Errno) {
	if number < 1 || number > 24 {
		return api.Inode{}, api.ErrNone
	}
	b, e := p.node(8 * number)
	switch {
	case e != api.OK:
		return api.Inode{}, e
	case len(b) == 3 && b[0] == 1 && int(b[1])+int(b[2])*256 <= 768:
		return api.Inode{Kind: 1, Size: int(b[1]) + int(b[2])*256}, api.OK
	case string(b) == "\x02\x00":
		return api.Inode{Kind: 2}, api.OK
	case string(b) == "\x02\x01\x07\x01x":
		return api.Inode{Kind: 2, Entries: []api.Entry{{Name: "x", Inode: 7}}}, api.OK
	}
	return api.Inode{}, api.ErrCorrupt
}

// load gives a file's bytes, with noughts for those of chunks that aren't needed; the first error of one that is.
func (p plain) load(number, size int, needed func(k, first, behind int) bool) ([]byte, api.Errno) {
	all := make([]byte, size)
	for k := 1; (k-1)*128 < size; k++ {
		first, behind := (k-1)*128, min(k*128, size)
		if !needed(k, first, behind) {
			continue
		}
		b, e := p.node(8*number + k)
		switch {
		case e == api.ErrNone, e == api.OK && len(b) != behind-first:
			return nil, api.ErrCorrupt
		case e != api.OK:
			return nil, e
		}
		copy(all[first:], b)
	}
	return all, api.OK
}

// within counts the bytes from first on, ahead of behind, of which the place is one from off on, n in all.
func within(first, behind, off, n int) int {
	count := 0
	for i := first; i < behind; i++ {
		if i >= off && i-off < n {
			count++
		}
	}
	return count
}

func (p plain) read(number, off, n int) ([]byte, api.Errno) {
	x, e := p.get(number)
	switch {
	case e != api.OK:
		return nil, e
	case x.Kind != 1:
		return nil, api.ErrIsDir
	case off < 0 || n < 0:
		return nil, api.ErrArg
	}
	all, e := p.load(number, x.Size, func(_, first, behind int) bool { return within(first, behind, off, n) > 0 })
	if e != api.OK {
		return nil, e
	}
	var b []byte
	for i, c := range all {
		if i >= off && i-off < n {
			b = append(b, c)
		}
	}
	return b, api.OK
}

func (p plain) write(number, off int, data []byte) api.Errno {
	x, e := p.get(number)
	switch {
	case e != api.OK:
		return e
	case x.Kind != 1:
		return api.ErrIsDir
	case off < 0:
		return api.ErrArg
	case len(data) == 0:
		return api.OK
	case off > 768 || len(data) > 768 || off+len(data) > 768:
		return api.ErrBig
	}
	last := (x.Size + 127) / 128
	all, e := p.load(number, x.Size, func(k, first, behind int) bool {
		n := within(first, behind, off, len(data))
		return n > 0 && n < behind-first || k == last && off+len(data) > x.Size
	})
	if e != api.OK {
		return e
	}
	for len(all) < off+len(data) {
		all = append(all, 0)
	}
	copy(all[off:], data)
	return p.become(number, x.Size, all, func(first, behind int) bool {
		return within(first, behind, off, len(data)) > 0 || behind > x.Size
	})
}

func (p plain) truncate(number, size int) api.Errno {
	x, e := p.get(number)
	switch {
	case e != api.OK:
		return e
	case x.Kind != 1:
		return api.ErrIsDir
	case size < 0:
		return api.ErrArg
	case size > 768:
		return api.ErrBig
	}
	all, e := p.load(number, x.Size, func(_, first, behind int) bool { return first < size && behind != min(first+128, size) })
	if e != api.OK {
		return e
	}
	all = append(all, make([]byte, 768)...)[:size]
	return p.become(number, x.Size, all, func(first, behind int) bool { return behind != min(first+128, x.Size) })
}

func (p plain) remove(number int) api.Errno {
	x, e := p.get(number)
	if e != api.OK {
		return e
	}
	for k := 0; k == 0 || (k-1)*128 < x.Size; k++ {
		p.set(8*number+k, nil)
	}
	return api.OK
}

// become lets a file of a size have other bytes; only the chunks that were written, or have other bytes, become others.
func (p plain) become(number, was int, all []byte, other func(first, behind int) bool) api.Errno {
	next := plain{p.clone()}
	if len(all) != was {
		next.set(8*number, []byte{1, byte(len(all)), byte(len(all) >> 8)})
	}
	for k := 1; k <= 6; k++ {
		first, behind := (k-1)*128, min(k*128, len(all))
		switch {
		case first >= len(all) && first < was:
			next.set(8*number+k, nil)
		case first < len(all) && other(first, behind):
			next.set(8*number+k, bytes.Clone(all[first:behind]))
		}
	}
	if len(next.nodes) > p.limit && len(next.nodes) > len(p.nodes) {
		return api.ErrNoSpace
	}
	*p.shelf = *next.shelf
	return api.OK
}

// set lets a node have a body, or be gone.
func (p plain) set(key int, body []byte) {
	delete(p.faults, key)
	delete(p.nodes, key)
	if body != nil {
		p.nodes[key] = body
	}
}

// pair is a cache, and what it should be.
type pair struct {
	t *testing.T
	c *cache.Cache
	p plain
}

// over gives a cache over a shelf.
func over(t *testing.T, s *shelf) *pair {
	return &pair{t, cache.New(s), plain{s.clone()}}
}

// holds tells unless all nodes are as they should be.
func (x *pair) holds() {
	x.t.Helper()
	for key := range 256 {
		b, e := x.c.Get(key)
		if want, f := x.p.node(key); !bytes.Equal(b, want) || e != f {
			x.t.Errorf("the node %d: %q, %v, not %q, %v", key, b, e, want, f)
		}
	}
	if l, want := x.c.Live(), lives(slices.Collect(maps.Keys(x.p.nodes))...); l != want {
		x.t.Errorf("Live: %v, not %v", l, want)
	}
}

// answers tells unless an answer is as it should be, and so all nodes behind it; the answer.
func (x *pair) answers(what string, e, want api.Errno) api.Errno {
	x.t.Helper()
	if e != want {
		x.t.Errorf("%s: %v, not %v", what, e, want)
	}
	x.holds()
	return e
}

func (x *pair) gets(number int) api.Errno {
	x.t.Helper()
	n, e := file.Get(x.c, number)
	want, f := x.p.get(number)
	if e != f || n.Kind != want.Kind || n.Size != want.Size || !slices.Equal(n.Entries, want.Entries) {
		x.t.Errorf("Get(%d): %v, %v, not %v, %v", number, n, e, want, f)
	}
	return e
}

func (x *pair) reads(number, off, n int) api.Errno {
	x.t.Helper()
	b, e := file.Read(x.c, number, off, n)
	if want, f := x.p.read(number, off, n); !bytes.Equal(b, want) || e != f {
		x.t.Errorf("Read(%d, %d, %d): %q, %v, not %q, %v", number, off, n, b, e, want, f)
	}
	return e
}

func (x *pair) writes(number, off int, data []byte) api.Errno {
	x.t.Helper()
	return x.answers("Write", file.Write(x.c, number, off, data), x.p.write(number, off, data))
}

func (x *pair) truncates(number, size int) api.Errno {
	x.t.Helper()
	return x.answers("Truncate", file.Truncate(x.c, number, size), x.p.truncate(number, size))
}

func (x *pair) removes(number int) api.Errno {
	x.t.Helper()
	return x.answers("Remove", file.Remove(x.c, number), x.p.remove(number))
}

// wants tells of an error that isn't the one wanted.
func wants(t *testing.T, what string, got, e api.Errno) {
	t.Helper()
	if got != e {
		t.Errorf("%s: %v, not %v", what, got, e)
	}
}

// breaks are the ways in which a node can't be had as it should be.
var breaks = []func(s *shelf, key int){
	func(s *shelf, key int) { delete(s.nodes, key) },
	func(s *shelf, key int) { s.nodes[key] = append(s.nodes[key], 'x') },
	func(s *shelf, key int) { s.nodes[key] = s.nodes[key][:max(len(s.nodes[key]), 1)-1] },
	func(s *shelf, key int) { s.nodes[key] = nil },
	func(s *shelf, key int) { s.nodes[key] = bytes.Repeat([]byte{1}, 224) },
	func(s *shelf, key int) { s.faults[key] = api.ErrCorrupt },
	func(s *shelf, key int) { s.faults[key] = api.ErrDown },
	func(s *shelf, key int) { s.faults[key] = api.ErrDead },
	func(s *shelf, key int) { s.faults[key] = 77 },
}

// some gives bytes.
func some(r *rand.Rand, n int) []byte {
	b := make([]byte, n)
	r.Read(b)
	return b
}
