package inode_test

import (
	"fmt"
	"math"
	"math/rand"
	"slices"
	"strings"
	"testing"

	"keelson/api"
)

// odd are numbers beyond what an inode's fields may be.
var odd = []int{math.MinInt, math.MinInt32, -256, -8, -1, 0, 3, 25, 26, 255, 256, 257, 280, 769, 65536, 65537, math.MaxInt32, math.MaxInt}

// wrongNames are texts that no name is.
var wrongNames = []string{"", ".", "..", "/", "a/b", "\x00", "a\x00", "thirteen-byte", "/a", strings.Repeat("x", 256)}

// file gives a file of a size.
func file(size int) api.Inode { return api.Inode{Kind: api.File, Size: size} }

// dir gives a directory with entries.
func dir(entries ...api.Entry) api.Inode { return api.Inode{Kind: api.Dir, Entries: entries} }

// entry gives an entry.
func entry(name string, inode int) api.Entry { return api.Entry{Name: name, Inode: inode} }

// full gives a directory of 8 entries: a, c, e, and so on.
func full() api.Inode {
	n := dir()
	for i := range 8 {
		n.Entries = append(n.Entries, entry(string(rune('a'+2*i)), 24-i))
	}
	return n
}

// same tells whether two inodes are one.
func same(a, b api.Inode) bool {
	return a.Kind == b.Kind && a.Size == b.Size && slices.Equal(a.Entries, b.Entries)
}

// zero tells whether an inode is one of which nothing is told.
func zero(n api.Inode) bool { return same(n, api.Inode{}) }

// plainName tells by layer 17's words whether a text is a name.
func plainName(s string) bool {
	return len(s) >= 1 && len(s) <= 12 && s != "." && s != ".." && !strings.Contains(s, "/") && !strings.Contains(s, "\x00")
}

// plainEntry tells by the chapter's words whether an entry is right.
func plainEntry(e api.Entry) bool { return plainName(e.Name) && e.Inode >= 1 && e.Inode <= 24 }

// plainRight tells by the chapter's words whether an inode is right.
func plainRight(n api.Inode) bool {
	switch n.Kind {
	case 1:
		return n.Size >= 0 && n.Size <= 768 && len(n.Entries) == 0
	case 2:
		for i, e := range n.Entries {
			if !plainEntry(e) || i > 0 && strings.Compare(n.Entries[i-1].Name, e.Name) != -1 {
				return false
			}
		}
		return n.Size == 0 && len(n.Entries) <= 8
	}
	return false
}

// plainBytes gives the bytes of an inode that is right, by the chapter's words.
func plainBytes(n api.Inode) []byte {
	if n.Kind == 1 {
		return []byte{1, byte(n.Size % 256), byte(n.Size / 256)}
	}
	b := []byte{2, byte(len(n.Entries))}
	for _, e := range n.Entries {
		b = append(b, byte(e.Inode), byte(len(e.Name)))
		b = append(b, e.Name...)
	}
	return b
}

// someNames are names of each length, of which some begin others.
var someNames = []string{"a", "aa", "ab", "b", "B", "...", " ", "-", "a.", "\x01", "\xff", "\xff\xff", "\x80", "\u00e4", "twelve-bytes", "twelve-byte", "twelve-bytez", "z"}

// someDir gives a directory that is right, of entries up to so many.
func someDir(r *rand.Rand, most int) api.Inode {
	n := dir()
	for _, i := range r.Perm(len(someNames))[:r.Intn(most+1)] {
		n.Entries = append(n.Entries, entry(someNames[i], 1+r.Intn(24)))
	}
	slices.SortFunc(n.Entries, func(a, b api.Entry) int { return strings.Compare(a.Name, b.Name) })
	return n
}

// rights gives many inodes that are right.
func rights() []api.Inode {
	var list []api.Inode
	for size := range 769 {
		list = append(list, file(size))
	}
	for i := range 24 {
		list = append(list, dir(entry("a", i+1)))
	}
	for size := range 12 {
		list = append(list, dir(entry(strings.Repeat("n", size+1), 7)))
	}
	r := rand.New(rand.NewSource(1))
	for range 400 {
		list = append(list, someDir(r, 8))
	}
	return append(list, dir(), full(), longest())
}

// longest gives the directory that has the most bytes.
func longest() api.Inode {
	n := dir()
	for i := range 8 {
		n.Entries = append(n.Entries, entry(strings.Repeat(string(rune('a'+i)), 12), 24))
	}
	return n
}

// wrongs gives many inodes that aren't right, each for one reason.
func wrongs() []api.Inode {
	list := []api.Inode{{}, {Kind: api.File, Entries: []api.Entry{entry("a", 1)}}, {Kind: api.File, Entries: make([]api.Entry, 1)}}
	for _, n := range odd {
		if n < 0 || n > 768 {
			list = append(list, file(n))
		}
		if n != 0 {
			list = append(list, api.Inode{Kind: api.Dir, Size: n}, api.Inode{Kind: api.Dir, Size: n, Entries: []api.Entry{entry("a", 1)}})
		}
		list = append(list, api.Inode{Kind: n}, api.Inode{Kind: n, Size: 5}, api.Inode{Kind: n, Entries: []api.Entry{entry("a", 1)}})
		if n < 1 || n > 24 {
			list = append(list, dir(entry("a", n)), dir(entry("a", 1), entry("b", n)), dir(entry("a", n), entry("b", 1)))
		}
	}
	for _, s := range wrongNames {
		list = append(list, dir(entry(s, 1)), dir(entry("\x01", 1), entry(s, 1)), dir(entry(s, 1), entry("\xff", 1)))
	}
	for _, names := range [][]string{{"b", "a"}, {"a", "a"}, {"a", "b", "b"}, {"a", "c", "b"}, {"aa", "a"}, {"a", "B"}, {"\xff", "\x7f"}, {"b", "a", "c"}, {"a", "b", "a"}} {
		n := dir()
		for i, s := range names {
			n.Entries = append(n.Entries, entry(s, i+1))
		}
		list = append(list, n)
	}
	for _, most := range []int{9, 10, 26, 256, 257, 264, 65536 + 3} {
		n := dir()
		for i := range most {
			n.Entries = append(n.Entries, entry(fmt.Sprintf("%06d", i), 1))
		}
		list = append(list, n)
	}
	return list
}

// The inodes of the tests are what they are told to be.
func TestKinds(t *testing.T) {
	for _, n := range rights() {
		if !plainRight(n) {
			t.Errorf("%v isn't right", n)
		}
	}
	for _, n := range wrongs() {
		if plainRight(n) {
			t.Errorf("%v is right", n)
		}
	}
}
