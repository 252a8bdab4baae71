package tree_test

import (
	"fmt"
	"maps"
	"slices"
	"testing"

	"keelson/api"
	"keelson/cache"
	"keelson/tree"
)

// copse gives a shelf with a small tree, and that.
func copse(t *testing.T) (*shelf, *plain) {
	t.Helper()
	x := fresh(t, 99)
	for _, path := range []string{"/a", "/a/b", "/a/b/f", "/a/b/g", "/a/c", "/a/c/h", "/d", "/f"} {
		kind := api.Dir
		if slices.Contains([]string{"/a/b/f", "/a/c/h", "/f"}, path) {
			kind = api.File
		}
		wants(t, path, x.makes(path, kind), api.OK)
	}
	s := newShelf(99)
	for _, c := range x.c.Changes() {
		s.nodes[c.Key] = c.Body
	}
	return s, x.p
}

// copsePaths are paths in a copse, and beside it.
var copsePaths = []string{"/", "/a", "/a/b", "/a/b/f", "/a/b/g", "/a/c", "/a/c/h", "/d", "/f", "/x", "/d/x", "/f/x", "/a/x", "/a/b/x", "/a/b/g/x", "/d/x/y", "/a/b/f/x", "//"}

// breaks lets an inode be one that can't be read.
func breaks(s *shelf, p *plain, number int, e api.Errno) {
	p.broken[number] = e
	switch e {
	case api.ErrNone:
		delete(s.nodes, 8*number)
		p.gone[number] = true
	case api.ErrCorrupt:
		s.nodes[8*number] = []byte("?")
	default:
		s.faults[8*number] = e
	}
}

// tries does all that may be done with a tree, each time from its beginning on.
func tries(t *testing.T, s *shelf, p *plain) {
	t.Helper()
	again := func() *pair { return &pair{t, cache.New(s), p.clone()} }
	unchanged := func(x *pair, e api.Errno) {
		t.Helper()
		if e != api.OK && len(x.c.Changes()) > 0 {
			t.Errorf("%v, and these changes: %v", e, x.c.Changes())
		}
	}
	for _, path := range copsePaths {
		x := again()
		if _, e := x.p.find(path); e != api.OK || p.broken[1] == api.OK {
			wants(t, "Find", findCode(x.c, path), e)
			_, e := tree.List(x.c, path)
			_, want := x.p.list(path)
			wants(t, "List", e, want)
		}
		for _, kind := range []int{api.File, api.Dir, 3} {
			x = again()
			number, e := tree.Make(x.c, path, kind)
			if want, f := x.p.make(path, kind); number != want || e != f {
				t.Errorf("Make(%q, %d): %d, %v, not %d, %v", path, kind, number, e, want, f)
			}
			unchanged(x, e)
			x = again()
			unchanged(x, x.removes(path, kind))
		}
		for _, to := range copsePaths {
			x = again()
			unchanged(x, x.renames(path, to))
		}
	}
}

// findCode gives Find's error.
func findCode(c *cache.Cache, path string) api.Errno {
	_, _, e := tree.Find(c, path)
	return e
}

// P21.1 to P21.5: with each inode of a tree broken, in each way.
func TestBroken(t *testing.T) {
	t.Parallel()
	for number := 1; number <= 9; number++ {
		for _, e := range []api.Errno{api.ErrNone, api.ErrCorrupt, api.ErrDown, 77} {
			s, p := copse(t)
			breaks(s, p, number, e)
			tries(t, s, p)
		}
	}
}

// P21.1 to P21.5: with two inodes of a tree broken: the error that is met first is told.
func TestBrokenTwice(t *testing.T) {
	t.Parallel()
	for number := 1; number <= 9; number++ {
		for other := 1; other <= 9; other++ {
			if number == other {
				continue
			}
			s, p := copse(t)
			breaks(s, p, number, api.ErrDead)
			breaks(s, p, other, api.ErrCorrupt)
			tries(t, s, p)
		}
	}
}

// P21.4: what is beneath is read directory by directory, all of it ahead of any ErrName and ErrMany.
func TestBeneath(t *testing.T) {
	for i, c := range []struct {
		from, to string
		broken   map[int]api.Errno
		want     api.Errno
	}{
		{"/a", "/d/a", map[int]api.Errno{3: api.ErrDead, 6: api.ErrDown}, api.ErrDead}, {"/a", "/d/a", map[int]api.Errno{4: api.ErrDead, 6: api.ErrDown}, api.ErrDown}, {"/a", "/d/a", map[int]api.Errno{5: api.ErrDead, 4: api.ErrNone}, api.ErrNone},
		{"/a", "/d/a", map[int]api.Errno{5: api.ErrDead, 7: api.ErrDown}, api.ErrDead}, {"/a", "/d/a", map[int]api.Errno{7: api.ErrCorrupt}, api.ErrCorrupt}, {"/a/b", "/d/b", map[int]api.Errno{7: api.ErrCorrupt, 6: api.ErrDead}, api.OK},
		{"/a", "/d/a", map[int]api.Errno{9: api.ErrCorrupt}, api.OK}, {"/a", "/a2", map[int]api.Errno{8: api.ErrCorrupt}, api.OK}, {"/a", "/a", map[int]api.Errno{3: api.ErrCorrupt}, api.OK}, {"/a", "/a/x", map[int]api.Errno{3: api.ErrCorrupt}, api.ErrLoop},
		{"/a", "/d", map[int]api.Errno{3: api.ErrCorrupt}, api.ErrExists}, {"/a", "/f/x", map[int]api.Errno{3: api.ErrCorrupt}, api.ErrNotDir}, {"/a", "/x/x", map[int]api.Errno{3: api.ErrCorrupt}, api.ErrNone}, {"/a", "/d/x", map[int]api.Errno{8: api.ErrCorrupt, 3: api.ErrDead}, api.ErrCorrupt},
	} {
		s, p := copse(t)
		for number, e := range c.broken {
			breaks(s, p, number, e)
		}
		x := &pair{t, cache.New(s), p}
		if e := x.renames(c.from, c.to); e != c.want {
			t.Errorf("%d: %v, not %v", i, e, c.want)
		}
	}
	x := fresh(t, 99)
	for _, path := range []string{"/a", "/a/b", "/a/b/c", "/d", "/d/d", "/d/d/d", "/d/d/d/d"} {
		x.makes(path, api.Dir)
	}
	s := newShelf(99)
	for _, c := range x.c.Changes() {
		s.nodes[c.Key] = c.Body
	}
	wants(t, "too deep", (&pair{t, cache.New(s), x.p.clone()}).renames("/a", "/d/d/d/d/a"), api.ErrName)
	s.faults[32] = api.ErrDead
	x.p.broken[4] = api.ErrDead
	wants(t, "too deep, and broken", (&pair{t, cache.New(s), x.p.clone()}).renames("/a", "/d/d/d/d/a"), api.ErrDead)
}

// crafted gives a cache over nodes that no calls of this layer make: of each inode the names of its entries, and their inodes.
func crafted(dirs map[int]map[string]int) *cache.Cache {
	s := newShelf(99)
	for number, entries := range dirs {
		b := []byte{2, byte(len(entries))}
		for _, name := range slices.Sorted(maps.Keys(entries)) {
			b = append(b, byte(entries[name]), byte(len(name)))
			b = append(b, name...)
		}
		s.nodes[8*number] = b
	}
	return cache.New(s)
}

// P1, P21.4: where directories stand in themselves each call ends; only what is at a path counts.
func TestCycles(t *testing.T) {
	names := map[string]int{}
	for _, s := range "abcdefgh" {
		names[string(s)] = 2
	}
	all := crafted(map[int]map[string]int{1: {"x": 2, "y": 3}, 2: names, 3: {}})
	wants(t, "within the top", tree.Rename(all, "/x", "/z"), api.OK)
	wants(t, "one level deeper", tree.Rename(all, "/z", "/y/z"), api.ErrName)
	wants(t, "Remove", tree.Remove(all, "/z/a/b/c/d/e", api.Dir), api.ErrNotEmpty)
	wants(t, "Find", findCode(all, "/z/a/b/c/d/e"), api.OK)
	wants(t, "out of itself", tree.Rename(all, "/z/a", "/w"), api.OK)
	wants(t, "gone", findCode(all, "/z/b/a"), api.ErrNone)
	top := crafted(map[int]map[string]int{1: {"x": 1}})
	wants(t, "the top in itself", tree.Rename(top, "/x", "/y"), api.OK)
	wants(t, "the top into itself, deeper", tree.Rename(top, "/y", "/y/y/x"), api.ErrLoop)
	wants(t, "the top", tree.Remove(top, "/y", api.Dir), api.ErrNotEmpty)
}

// P21.4: a directory that stands at two paths is one parent.
func TestOneParent(t *testing.T) {
	c := crafted(map[int]map[string]int{1: {"a": 2, "b": 2}, 2: {"x": 3, "y": 4}, 3: {}, 4: {}})
	wants(t, "Rename", tree.Rename(c, "/a/x", "/b/z"), api.OK)
	for _, path := range []string{"/a", "/b"} {
		if names, e := tree.List(c, path); !slices.Equal(names, []string{"y", "z"}) || e != api.OK {
			t.Errorf("%q, %v", names, e)
		}
	}
	wants(t, "it is there", tree.Rename(c, "/a/y", "/b/y"), api.ErrExists)
	full := map[string]int{}
	for i := range 8 {
		full[fmt.Sprint(i)] = 3 + i
	}
	c = crafted(map[int]map[string]int{1: {"a": 2, "b": 2}, 2: full, 3: {}, 4: {}})
	wants(t, "Rename in what is full", tree.Rename(c, "/a/0", "/b/z"), api.OK)
}
