package tree_test

import (
	"fmt"
	"slices"
	"strings"
	"testing"

	"keelson/api"
	"keelson/cache"
	"keelson/file"
	"keelson/tree"
)

// P21.1 to P21.4: the chapter's example.
func TestExample(t *testing.T) {
	x := fresh(t, 99)
	wants(t, "Make", x.makes("/a", api.Dir), api.OK)
	wants(t, "Make", x.makes("/a/b", api.File), api.OK)
	was, _, _ := tree.Find(x.c, "/a/b")
	wants(t, "Rename", x.renames("/a", "/c"), api.OK)
	number, n, e := tree.Find(x.c, "/c/b")
	if number != was || number != 3 || n.Kind != api.File || e != api.OK {
		t.Errorf("%d, %v, %v", number, n, e)
	}
	wants(t, "Rename", x.renames("/c", "/c/d"), api.ErrLoop)
}

// P21.1: Format lets the top be empty, whatever it was; all else stays.
func TestFormat(t *testing.T) {
	for _, body := range []string{"", "?", "\x01\x00\x00", "\x02\x01\x02\x01a"} {
		s := newShelf(0)
		s.nodes[8], s.nodes[16], s.nodes[9] = []byte(body), []byte("\x01\x00\x00"), []byte("x")
		c := cache.New(s)
		wants(t, "Format", tree.Format(c), api.OK)
		if l := c.Changes(); len(l) != 1 || l[0].Key != 8 || l[0].Gone || string(l[0].Body) != "\x02\x00" {
			t.Errorf("%q: %v", body, l)
		}
		number, n, e := tree.Find(c, "/")
		if number != 1 || n.Kind != api.Dir || n.Size != 0 || len(n.Entries) != 0 || e != api.OK {
			t.Errorf("%d, %v, %v", number, n, e)
		}
	}
	s := newShelf(0)
	s.faults[8] = api.ErrDead
	s.nodes[8] = nil
	c := cache.New(s)
	wants(t, "Format over what can't be read", tree.Format(c), api.OK)
	if _, _, e := tree.Find(c, "/"); e != api.OK {
		t.Error(e)
	}
	for limit := -1; limit <= 1; limit++ {
		c := cache.New(newShelf(limit))
		want := api.ErrNoSpace
		if limit == 1 {
			want = api.OK
		}
		wants(t, "Format in no space", tree.Format(c), want)
		if (len(c.Changes()) == 0) != (want != api.OK) {
			t.Error(c.Changes())
		}
	}
}

// P21.1 to P21.4: without a top.
func TestNoTop(t *testing.T) {
	c := cache.New(newShelf(99))
	for _, path := range []string{"/", "/a", "/a/b/c/d/e/f"} {
		number, n, e := tree.Find(c, path)
		if number != 0 || n.Kind != 0 || len(n.Entries) != 0 || e != api.ErrNone {
			t.Errorf("%d, %v, %v", number, n, e)
		}
		names, e := tree.List(c, path)
		if len(names) != 0 || e != api.ErrNone {
			t.Errorf("%q, %v", names, e)
		}
	}
	number, e := tree.Make(c, "/a", api.File)
	if number != 0 || e != api.ErrNone {
		t.Errorf("%d, %v", number, e)
	}
	wants(t, "Remove", tree.Remove(c, "/a", api.File), api.ErrNone)
	wants(t, "Rename", tree.Rename(c, "/a", "/b"), api.ErrNone)
	wants(t, "Rename", tree.Rename(c, "/a", "/a"), api.ErrNone)
	if len(c.Changes()) != 0 {
		t.Error(c.Changes())
	}
}

// grove gives a tree with files and directories at all levels: /d/d/d/d/d/d, and at each level of it a file f and an empty directory e.
func grove(t *testing.T) *pair {
	t.Helper()
	x := fresh(t, 99)
	for depth := range 6 {
		up := strings.Repeat("/d", depth)
		for _, name := range []string{"/f", "/e", "/d"} {
			kind := api.Dir
			if name == "/f" {
				kind = api.File
			}
			wants(t, up+name, x.makes(up+name, kind), api.OK)
		}
	}
	return x
}

// grovePaths are paths in a grove, and beside it.
func grovePaths() []string {
	paths := []string{"/", "/x", "/e/x", "/f/x", "/x/y", "/e/x/y"}
	for depth := range 6 {
		up := strings.Repeat("/d", depth)
		for _, name := range []string{"/f", "/e", "/d", "/f/x", "/e/x", "/x", "/f/x/y", "/dd", "/e/g/x"} {
			if strings.Count(up+name, "/") <= 6 {
				paths = append(paths, up+name)
			}
		}
	}
	return slices.Concat(paths, wrongPaths)
}

// P21.1: Find and List of what is there, and of what isn't.
func TestFind(t *testing.T) {
	x := grove(t)
	for _, path := range grovePaths() {
		x.finds(path)
		x.lists(path)
	}
	for i, c := range []struct {
		path       string
		find, list api.Errno
	}{
		{"/", api.OK, api.OK}, {"/f", api.OK, api.ErrNotDir}, {"/e", api.OK, api.OK}, {"/x", api.ErrNone, api.ErrNone}, {"/f/x", api.ErrNotDir, api.ErrNotDir}, {"/e/x", api.ErrNone, api.ErrNone}, {"/e/x/y", api.ErrNone, api.ErrNone},
		{"/f/x/y", api.ErrNotDir, api.ErrNotDir}, {"/d/d/d/d/d/d", api.OK, api.OK}, {"/d/d/d/d/d/d/d", api.ErrName, api.ErrName}, {"/d/", api.ErrName, api.ErrName}, {"", api.ErrName, api.ErrName}, {"/f/x/", api.ErrName, api.ErrName},
	} {
		wants(t, fmt.Sprint(i), x.finds(c.path), c.find)
		wants(t, fmt.Sprint(i), x.lists(c.path), c.list)
	}
}

// P21.2: Make at all paths, of all kinds.
func TestMake(t *testing.T) {
	for _, path := range grovePaths() {
		for _, kind := range []int{api.File, api.Dir} {
			x := grove(t)
			if x.makes(path, kind) == api.OK {
				x.finds(path)
			}
		}
	}
	x := grove(t)
	for _, kind := range oddKinds {
		for _, path := range grovePaths() {
			want := api.ErrArg
			if !isPath(path) {
				want = api.ErrName
			}
			wants(t, path, x.makes(path, kind), want)
		}
	}
}

// P21.2: the least number that is free is taken.
func TestLeastNumber(t *testing.T) {
	x := fresh(t, 99)
	x.makes("/d", api.Dir)
	for i := range 7 {
		x.makes(fmt.Sprint("/", i), api.File)
		x.makes(fmt.Sprint("/d/", i), api.File)
	}
	for _, path := range []string{"/3", "/d/0", "/d/6", "/5"} {
		x.removes(path, api.File)
	}
	for i, path := range []string{"/d/x", "/y", "/z", "/d/t", "/d/u"} {
		x.makes(path, api.Dir)
		if n, _, e := tree.Find(x.c, path); n != []int{4, 9, 13, 16, 17}[i] || e != api.OK {
			t.Errorf("%s: %d, %v", path, n, e)
		}
	}
	x.removes("/d/1", api.File)
	x.makes("/d/v", api.File)
	if n, _, e := tree.Find(x.c, "/d/v"); n != 6 || e != api.OK {
		t.Errorf("%d, %v", n, e)
	}
}

// P21.2: only an inode's own node takes its number.
func TestStrayNodes(t *testing.T) {
	s := newShelf(99)
	for _, key := range []int{0, 7, 17, 22, 23, 25, 200, 207, 255} {
		s.nodes[key] = []byte("stray")
	}
	s.nodes[24] = nil
	c := cache.New(s)
	wants(t, "Format", tree.Format(c), api.OK)
	for i, want := range []int{2, 4, 5} {
		if n, e := tree.Make(c, fmt.Sprint("/", i), api.File); n != want || e != api.OK {
			t.Errorf("%d: %d, %v", i, n, e)
		}
	}
}

// P21.2: a directory has 8 entries at the most, and there are 24 inodes at the most; that none is free is told first.
func TestMakeMany(t *testing.T) {
	x := fresh(t, 99)
	for i := range 8 {
		wants(t, "Make", x.makes(fmt.Sprint("/", i), api.Dir), api.OK)
	}
	wants(t, "a ninth entry", x.makes("/8", api.File), api.ErrMany)
	wants(t, "a ninth entry that is there", x.makes("/7", api.File), api.ErrExists)
	for i := range 15 {
		wants(t, "Make", x.makes(fmt.Sprintf("/%d/%x", i/8, i), api.File), api.OK)
	}
	wants(t, "no inode, and no entry", x.makes("/8", api.File), api.ErrNoSpace)
	wants(t, "no inode", x.makes("/3/x", api.Dir), api.ErrNoSpace)
	wants(t, "no inode, and it is there", x.makes("/1/8", api.Dir), api.ErrExists)
	wants(t, "no inode, and no directory", x.makes("/1/8/x", api.Dir), api.ErrNotDir)
	x.removes("/7", api.Dir)
	wants(t, "the last inode", x.makes("/0/x", api.Dir), api.ErrMany)
	wants(t, "the last inode", x.makes("/8", api.Dir), api.OK)
}

// P21.2: there are as many nodes at the most as the Limit tells; ErrMany is told first.
func TestMakeLimit(t *testing.T) {
	for limit := 1; limit < 12; limit++ {
		x := fresh(t, limit)
		for i := range 12 {
			want := api.OK
			switch {
			case i >= 8 && limit >= 9:
				want = api.ErrMany
			case i+2 > limit:
				want = api.ErrNoSpace
			}
			wants(t, fmt.Sprint("Make ", i, " of ", limit), x.makes(fmt.Sprintf("/%x", i), api.File), want)
		}
	}
	x := fresh(t, 4)
	x.makes("/f", api.File)
	wants(t, "Write", file.Write(x.c, 2, 200, []byte("x")), api.OK)
	x.p.items["/f"] = item{api.File, 2, 201}
	wants(t, "chunks are nodes, too", x.makes("/g", api.Dir), api.ErrNoSpace)
}

// P21.3: Remove at all paths, of all kinds.
func TestRemove(t *testing.T) {
	for _, path := range grovePaths() {
		for _, kind := range append(oddKinds, api.File, api.Dir) {
			x := grove(t)
			if x.removes(path, kind) == api.OK {
				wants(t, path, x.finds(path), api.ErrNone)
			}
		}
	}
	x := grove(t)
	for i, c := range []struct {
		path string
		kind int
		want api.Errno
	}{
		{"/", api.Dir, api.ErrArg}, {"/", api.File, api.ErrArg}, {"/", 3, api.ErrArg}, {"//", 3, api.ErrName}, {"/x", 3, api.ErrArg}, {"/x", api.Dir, api.ErrNone}, {"/f/x", api.Dir, api.ErrNotDir},
		{"/d", api.File, api.ErrIsDir}, {"/f", api.Dir, api.ErrNotDir}, {"/d", api.Dir, api.ErrNotEmpty}, {"/d/d/d/d/d/d", api.File, api.ErrIsDir}, {"/d/d/d/d/d/d", api.Dir, api.OK}, {"/d/d/d/d/d", api.Dir, api.ErrNotEmpty},
		{"/d/d/d/d/d/e", api.Dir, api.OK}, {"/d/d/d/d/d", api.Dir, api.ErrNotEmpty}, {"/d/d/d/d/d/f", api.File, api.OK}, {"/d/d/d/d/d", api.Dir, api.OK}, {"/d/d/d/d/d", api.Dir, api.ErrNone},
	} {
		wants(t, fmt.Sprint(i), x.removes(c.path, c.kind), c.want)
	}
}

// P21.3: all nodes of a file go, and nothing else does; no room is needed.
func TestRemoveChunks(t *testing.T) {
	for _, size := range []int{0, 1, 128, 129, 500, 768} {
		x := fresh(t, 99)
		for i, s := range []string{"/a", "/b", "/c"} {
			x.makes(s, api.File)
			wants(t, "Truncate", file.Truncate(x.c, i+2, size), api.OK)
			x.p.items[s] = item{api.File, i + 2, size}
		}
		s := newShelf(0)
		for _, c := range x.c.Changes() {
			s.nodes[c.Key] = c.Body
		}
		x.c = cache.New(s)
		x.removes("/b", api.File)
		for k := range 7 {
			if _, e := x.c.Get(24 + k); e != api.ErrNone {
				t.Errorf("%d: %v", k, e)
			}
		}
		if l := x.c.Changes(); len(l) != 2+(size+127)/128 {
			t.Error(l)
		}
		if b, e := file.Read(x.c, 2, 0, 768); len(b) != size || e != api.OK {
			t.Errorf("%v, %v", b, e)
		}
	}
}

// P21.1: the names of a directory rise, byte by byte.
func TestListOrder(t *testing.T) {
	x := fresh(t, 99)
	for _, s := range []string{"b", "a", "\xff", "B", "aa", " ", "...", "twelve-bytes"} {
		wants(t, s, x.makes("/"+s, api.File), api.OK)
	}
	names, e := tree.List(x.c, "/")
	if want := []string{" ", "...", "B", "a", "aa", "b", "twelve-bytes", "\xff"}; !slices.Equal(names, want) || e != api.OK {
		t.Errorf("%q, %v", names, e)
	}
}

// P21.5: answers are new memory, their spare room too.
func TestAnswers(t *testing.T) {
	x := grove(t)
	for range 2 {
		names, _ := tree.List(x.c, "/d")
		names = names[:cap(names)]
		for i := range names {
			names[i] = "other"
		}
		_, n, _ := tree.Find(x.c, "/d")
		n.Entries = n.Entries[:cap(n.Entries)]
		for i := range n.Entries {
			n.Entries[i] = api.Entry{Name: "other", Inode: 9}
		}
		x.finds("/d")
		x.lists("/d")
		x.holds()
		x.makes("/d/new", api.File)
	}
}
