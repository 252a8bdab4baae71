package tree_test

import (
	"fmt"
	"strings"
	"testing"

	"keelson/api"
	"keelson/cache"
	"keelson/file"
	"keelson/tree"
)

// P21.4: Rename between all paths.
func TestRename(t *testing.T) {
	t.Parallel()
	base := grove(t)
	s := newShelf(99)
	for _, c := range base.c.Changes() {
		s.nodes[c.Key] = c.Body
	}
	for _, from := range grovePaths() {
		for _, to := range grovePaths() {
			x := &pair{t, cache.New(s), base.p.clone()}
			if x.renames(from, to) != api.OK {
				continue
			}
			for _, path := range []string{from, to, from + "/d", to + "/d", from + "/f", to + "/f"} {
				x.finds(path)
			}
		}
	}
}

// P21.4: the order of Rename's errors.
func TestRenameOrder(t *testing.T) {
	x := grove(t)
	for i, c := range []struct {
		from, to string
		want     api.Errno
	}{
		{"x", "/", api.ErrName}, {"/", "x", api.ErrName}, {"/x", "//", api.ErrName}, {"", "", api.ErrName}, {"/", "/", api.ErrArg}, {"/", "/x", api.ErrArg}, {"/x", "/", api.ErrArg}, {"/f", "/", api.ErrArg}, {"/f/x", "/", api.ErrArg},
		{"/x", "/x", api.ErrNone}, {"/x", "/x/y", api.ErrNone}, {"/x", "/f/y", api.ErrNone}, {"/f/x", "/f/x", api.ErrNotDir}, {"/f", "/f", api.OK}, {"/d", "/d", api.OK}, {"/d/d/d/d/d/d", "/d/d/d/d/d/d", api.OK},
		{"/d", "/d/x", api.ErrLoop}, {"/d", "/d/f", api.ErrLoop}, {"/d", "/d/f/x", api.ErrLoop}, {"/f", "/f/x", api.ErrLoop}, {"/d", "/d/x/y", api.ErrLoop}, {"/d", "/dd/x", api.ErrNone}, {"/e", "/ee", api.OK}, {"/ee", "/e", api.OK},
		{"/d", "/x/y", api.ErrNone}, {"/d", "/f/y", api.ErrNotDir}, {"/d/f", "/f/d/e", api.ErrNotDir}, {"/d", "/e", api.ErrExists}, {"/d", "/f", api.ErrExists}, {"/f", "/d/f", api.ErrExists}, {"/d/d", "/d", api.ErrExists},
		{"/d", "/e/d", api.ErrName}, {"/d/d", "/e/d", api.OK}, {"/e/d", "/e/dd", api.OK}, {"/e/dd", "/d/e/dd", api.ErrName}, {"/e/dd", "/dd", api.OK}, {"/dd", "/d/d", api.OK},
		{"/d/d/d/d", "/d/d/e/d", api.OK}, {"/d/d/e/d", "/d/d/d/e/d", api.ErrName}, {"/d/d/e/d", "/d/d/d/d", api.OK}, {"/d/d/d/d/d/d", "/x", api.OK}, {"/x", "/d/d/d/d/d/d", api.OK}, {"/d/d/d/d/d/f", "/d/d/d/d/d/g", api.OK},
	} {
		if e := x.renames(c.from, c.to); e != c.want {
			t.Errorf("%d: Rename(%q, %q): %v, not %v", i, c.from, c.to, e, c.want)
		}
	}
}

// P21.4: a directory that is full takes no more; one that has lost from ahead does.
func TestRenameMany(t *testing.T) {
	x := fresh(t, 99)
	x.makes("/d", api.Dir)
	x.makes("/d/x", api.File)
	x.makes("/d/y", api.Dir)
	for i := range 7 {
		x.makes(fmt.Sprint("/", i), api.File)
	}
	wants(t, "into what is full", x.renames("/d/x", "/x"), api.ErrMany)
	wants(t, "into what is full", x.renames("/d/y", "/0y"), api.ErrMany)
	wants(t, "it is there", x.renames("/d/x", "/3"), api.ErrExists)
	for _, names := range [][2]string{{"/3", "/!"}, {"/!", "/zz"}, {"/zz", "/33"}, {"/33", "/3"}, {"/d", "/0d"}, {"/0d", "/d"}} {
		wants(t, "within what is full", x.renames(names[0], names[1]), api.OK)
		x.lists("/")
	}
	wants(t, "out of what is full", x.renames("/3", "/d/3"), api.OK)
	wants(t, "into it again", x.renames("/d/x", "/x"), api.OK)
	wants(t, "full again", x.renames("/d/3", "/3"), api.ErrMany)
}

// P21.4: what is moved stays what it is, with all that is beneath it; no room is needed.
func TestRenameKeeps(t *testing.T) {
	x := fresh(t, 99)
	for _, path := range []string{"/a", "/a/b", "/e"} {
		x.makes(path, api.Dir)
	}
	x.makes("/a/b/f", api.File)
	wants(t, "Write", file.Write(x.c, 5, 100, []byte("some text that is kept")), api.OK)
	x.p.items["/a/b/f"] = item{api.File, 5, 122}
	s := newShelf(0)
	for _, c := range x.c.Changes() {
		s.nodes[c.Key] = c.Body
	}
	for to, changes := range map[string]int{"/x": 1, "/b": 1, "/e/x": 2, "/e/a": 2} {
		y := &pair{t, cache.New(s), x.p.clone()}
		wants(t, to, y.renames("/a", to), api.OK)
		if l := y.c.Changes(); len(l) != changes {
			t.Errorf("%s: %v", to, l)
		}
		y.finds(to + "/b")
		number, _, e := tree.Find(y.c, to+"/b/f")
		b, f := file.Read(y.c, number, 100, 99)
		if string(b) != "some text that is kept" || number != 5 || e != api.OK || f != api.OK {
			t.Errorf("%q, %d, %v, %v", b, number, e, f)
		}
	}
}

// P21.4: how deep what is moved may go, of all depths.
func TestRenameDepth(t *testing.T) {
	for below := range 5 {
		for depth := 1; depth <= 6; depth++ {
			x := fresh(t, 99)
			for i := range below + 1 {
				x.makes(strings.Repeat("/a", i+1), api.Dir)
			}
			for i := range depth - 1 {
				x.makes("/b"+strings.Repeat("/b", i), api.Dir)
			}
			to := strings.Repeat("/b", depth-1) + "/x"
			want := api.OK
			if depth+below > 6 {
				want = api.ErrName
			}
			wants(t, fmt.Sprint(below, " levels to ", to), x.renames("/a", to), want)
			x.makes("/c", api.File)
			wants(t, "a file, to "+to, x.renames("/c", to+"y"), api.OK)
		}
	}
}
