package fs_test

import (
	"fmt"
	"maps"
	"math"
	"slices"
	"strings"
	"testing"

	"keelson/api"
	"keelson/fs"
	"keelson/mirror"
	"keelson/plain"
	"keelson/resync"
)

// kinds are all kinds of operations, and some that are none.
var kinds = []int{api.OpCreate, api.OpMkdir, api.OpOpen, api.OpClose, api.OpRead, api.OpWrite, api.OpTruncate, api.OpRename, api.OpUnlink, api.OpRmdir, api.OpList, api.OpStat, api.OpSync, 0, 14, -1, math.MaxInt, math.MinInt, 1 << 32, 1<<32 + 1}

// asks does operations of all kinds, right ones and wrong ones, all of which must answer an error alone.
func (x *scene) asks(what string, e api.Errno) {
	x.t.Helper()
	for _, kind := range kinds {
		for _, path := range []string{"/d", "/f", "/none", "/", "", "/d/new"} {
			for _, h := range []int{1, 2, -1} {
				o := api.Op{Kind: kind, Path: path, To: "/to", H: h, N: 1, Data: []byte("x")}
				if a := x.f.Do(o); !plain.Same(a, api.Answer{Code: e}) {
					x.t.Errorf("%s: %v: %v, not %v alone", what, o, a, e)
				}
			}
		}
	}
}

// P23.2: ErrDown if there is no power, ErrDead if there is no lead, ahead of all else; nothing has changed then, and no handle is closed.
func TestDownAndDead(t *testing.T) {
	x := made(t, "without power, or a lead", 16)
	x.grows()
	x.oks(op(api.OpOpen, "/f"), op(api.OpSync), op(api.OpUnlink, "/d/g"), write(1, 99, []byte("more")))
	acts := x.acts()
	x.off()
	x.asks("no power", api.ErrDown)
	x.chips[0].Put(false)
	x.chips[1].Put(false)
	x.asks("no power, no chip", api.ErrDown)
	x.p.On()
	x.asks("no chip", api.ErrDead)
	x.chips[1].Put(true)
	if x.acts() != acts {
		t.Error("something was written")
	}
	x.walks()
	x.codes(api.OK, api.Op{Kind: api.OpRead, H: 1, N: 999})
	x.chips[0].Put(true)
	x.opens(x.syncs())

	x.fences(1)
	x.chips[0].Put(false)
	if !x.f.Up(1) {
		t.Error("the chip 1 isn't up")
	}
	x.asks("a chip that is no member", api.ErrDead)
	x.chips[0].Put(true)
	x.walks()
}

// P23.2: a Kind that is none is ErrArg, whatever else is there.
func TestKinds(t *testing.T) {
	x := made(t, "kinds", 16)
	x.grows()
	x.oks(op(api.OpOpen, "/f"))
	for _, kind := range kinds {
		if kind < api.OpCreate || kind > api.OpSync {
			for _, path := range []string{"/f", "/", "", "/new"} {
				x.codes(api.ErrArg, api.Op{Kind: kind, Path: path, To: "/g", H: 1, N: 5, Data: []byte("abc")})
			}
		}
	}
	x.walks()
}

// step is an operation, and the code that it is to answer.
type step struct {
	o api.Op
	e api.Errno
}

// P23.2: the errors of what goes by paths, in their order, and what is done.
func TestPaths(t *testing.T) {
	x := made(t, "paths", 16)
	x.grows()
	for _, s := range []step{
		{op(api.OpCreate, "/f"), api.ErrExists}, {op(api.OpMkdir, "/f"), api.ErrExists}, {op(api.OpCreate, "/d"), api.ErrExists}, {op(api.OpCreate, "/"), api.ErrExists}, {op(api.OpMkdir, "/"), api.ErrExists}, {op(api.OpCreate, "/f/x"), api.ErrNotDir}, {op(api.OpMkdir, "/f/x/y"), api.ErrNotDir}, {op(api.OpCreate, "/n/x"), api.ErrNone}, {op(api.OpMkdir, "/n/x"), api.ErrNone},
		{op(api.OpOpen, "/"), api.ErrIsDir}, {op(api.OpOpen, "/d/e"), api.ErrIsDir}, {op(api.OpOpen, "/n"), api.ErrNone}, {op(api.OpOpen, "/f/x"), api.ErrNotDir},
		{op(api.OpUnlink, "/"), api.ErrIsDir}, {op(api.OpUnlink, "/d"), api.ErrIsDir}, {op(api.OpUnlink, "/z"), api.ErrIsDir}, {op(api.OpUnlink, "/n"), api.ErrNone}, {op(api.OpUnlink, "/f/x"), api.ErrNotDir},
		{op(api.OpRmdir, "/"), api.ErrArg}, {op(api.OpRmdir, "/f"), api.ErrNotDir}, {op(api.OpRmdir, "/f/x"), api.ErrNotDir}, {op(api.OpRmdir, "/n"), api.ErrNone}, {op(api.OpRmdir, "/d"), api.ErrNotEmpty},
		{op(api.OpRename, "/", "/x"), api.ErrArg}, {op(api.OpRename, "/f", "/"), api.ErrArg}, {op(api.OpRename, "/n", "/x"), api.ErrNone}, {op(api.OpRename, "/n", "/n"), api.ErrNone}, {op(api.OpRename, "/f", "/f"), api.OK}, {op(api.OpRename, "/d", "/d/x"), api.ErrLoop}, {op(api.OpRename, "/f", "/z"), api.ErrExists}, {op(api.OpRename, "/f", "/n/f"), api.ErrNone}, {op(api.OpRename, "/z", "/f/z"), api.ErrNotDir},
		{op(api.OpList, "/f"), api.ErrNotDir}, {op(api.OpList, "/n"), api.ErrNone}, {op(api.OpList, "/f/n"), api.ErrNotDir}, {op(api.OpStat, "/n"), api.ErrNone}, {op(api.OpStat, "/f/n"), api.ErrNotDir}, {op(api.OpStat, "/n/n"), api.ErrNone},
	} {
		x.codes(s.e, s.o)
		x.walks()
	}
	for kind := api.OpCreate; kind < api.OpSync; kind++ {
		for _, path := range plain.WrongPaths() {
			if kind <= api.OpOpen || kind >= api.OpRename {
				x.codes(api.ErrName, op(kind, path, "/x"))
			}
		}
	}
	for _, path := range plain.WrongPaths() {
		x.codes(api.ErrName, op(api.OpRename, "/f", path))
		x.codes(api.ErrName, op(api.OpRename, "/n", path))
	}
	x.walks()
	x.oks(op(api.OpRename, "/d", "/z/d"), op(api.OpRename, "/f", "/z/d/e/i"), op(api.OpUnlink, "/z/d/e/h"), op(api.OpUnlink, "/z/d/e/i"), op(api.OpRmdir, "/z/d/e"))
	x.walks()
	x.opens(x.syncs())
}

// P23.2: OpStat tells a file's size, or how many entries; OpList the names, rising, and how many.
func TestStatAndList(t *testing.T) {
	x := made(t, "stat and list", 20)
	x.grows()
	for _, c := range []struct {
		path    string
		kind, n int
		names   string
	}{
		{"/", api.Dir, 3, "d f z"}, {"/d", api.Dir, 2, "e g"}, {"/z", api.Dir, 0, ""}, {"/f", api.File, 100, ""}, {"/d/g", api.File, 250, ""}, {"/d/e/h", api.File, 400, ""},
	} {
		if a := x.codes(api.OK, op(api.OpStat, c.path)); !plain.Same(a, api.Answer{Kind: c.kind, N: c.n}) {
			t.Errorf("%s: %v", c.path, a)
		}
		if c.kind == api.Dir {
			if a := x.codes(api.OK, op(api.OpList, c.path)); a.N != c.n || strings.Join(a.Names, " ") != c.names {
				t.Errorf("%s: %v", c.path, a)
			}
		}
	}
}

// P23.2: nine names in a directory are ErrMany, 25 inodes ErrNoSpace.
func TestMany(t *testing.T) {
	x := made(t, "many", 20)
	for i := range 9 {
		e := api.OK
		if i == 8 {
			e = api.ErrMany
		}
		x.codes(e, op(api.OpMkdir, fmt.Sprint("/", 9-i)))
	}
	x.oks(op(api.OpCreate, "/9/f"), op(api.OpRename, "/8", "/renamed"))
	x.codes(api.ErrMany, op(api.OpRename, "/9/f", "/f"))
	for i := 10; i < 26; i++ {
		e := api.OK
		if i >= 24 {
			e = api.ErrNoSpace
		}
		x.codes(e, op(api.OpCreate, fmt.Sprint("/", 2+i%5, "/", i)))
	}
	x.codes(api.ErrNoSpace, op(api.OpMkdir, "/x")) // also in a directory that is full
	x.oks(op(api.OpUnlink, "/9/f"), op(api.OpCreate, "/9/g"))
	x.walks()
	x.opens(x.syncs())
}

// P23.2, P23.3: one node more than the Limit is ErrNoSpace, and nothing is done.
func TestLimit(t *testing.T) {
	x := made(t, "limit", 16)
	limit := x.f.Limit()
	for i := 0; x.plain.Nodes() < limit-1; i++ {
		h := x.files(fmt.Sprint("/", i), plain.Text(min(768, 128*(limit-2-x.plain.Nodes())), i))
		x.oks(api.Op{Kind: api.OpClose, H: h})
	}
	h := x.codes(api.OK, op(api.OpOpen, "/0")).N
	x.codes(api.OK, op(api.OpCreate, "/last"))
	g := x.codes(api.OK, op(api.OpOpen, "/last")).N
	if x.plain.Nodes() != limit {
		t.Fatal(x.plain.Nodes(), limit)
	}
	for range 2 {
		for _, o := range []api.Op{op(api.OpCreate, "/n"), op(api.OpMkdir, "/n"), write(g, 0, []byte("x")), write(g, 640, []byte("x")), {Kind: api.OpTruncate, H: g, N: 1}} {
			x.codes(api.ErrNoSpace, o)
			x.walks()
		}
		x.oks(write(g, 0, nil), write(h, 0, plain.Text(768, 9)), op(api.OpRename, "/last", "/first"), op(api.OpRename, "/first", "/last"), op(api.OpSync))
	}
	x.oks(api.Op{Kind: api.OpTruncate, H: h, N: 640}, write(g, 0, plain.Text(128, 3)))
	x.codes(api.ErrNoSpace, write(g, 128, []byte("x")))
	x.walks()
	x.opens(x.syncs())
}

// P23.2, P22.1: the least number that is no handle; six at the most, and what is wrong with the path comes first.
func TestHandles(t *testing.T) {
	x := made(t, "handles", 16)
	x.grows()
	for _, h := range plain.Odd() {
		for _, kind := range []int{api.OpClose, api.OpRead, api.OpWrite, api.OpTruncate} {
			x.codes(api.ErrHandle, api.Op{Kind: kind, H: h, Off: -1, N: -1, Data: []byte("x")})
		}
	}
	for h := 1; h <= 6; h++ {
		if a := x.codes(api.OK, op(api.OpOpen, []string{"/f", "/d/g"}[h%2])); a.N != h {
			t.Error(h, a)
		}
	}
	for _, s := range []step{
		{op(api.OpOpen, "/f"), api.ErrMany}, {op(api.OpOpen, "/d/e/h"), api.ErrMany}, {op(api.OpOpen, "/d"), api.ErrIsDir}, {op(api.OpOpen, "/n"), api.ErrNone}, {op(api.OpOpen, "n"), api.ErrName},
		{api.Op{Kind: api.OpClose, H: 4}, api.OK}, {api.Op{Kind: api.OpClose, H: 4}, api.ErrHandle}, {api.Op{Kind: api.OpClose, H: 2}, api.OK}, {api.Op{Kind: api.OpClose, H: 7}, api.ErrHandle},
	} {
		x.codes(s.e, s.o)
	}
	for _, want := range []int{2, 4} {
		if a := x.codes(api.OK, op(api.OpOpen, "/d/e/h")); a.N != want {
			t.Error(want, a)
		}
	}
	x.codes(api.ErrMany, op(api.OpOpen, "/f"))
	for h := range 8 {
		x.does(api.Op{Kind: api.OpRead, H: h, N: math.MaxInt})
	}
	x.syncs()
	for h := range 8 {
		x.does(api.Op{Kind: api.OpRead, H: h, N: math.MaxInt})
	}
}

// P23.2: a file that is open isn't unlinked, wherever it is; closed by its last handle it is.
func TestBusy(t *testing.T) {
	x := made(t, "busy", 16)
	x.grows()
	x.oks(op(api.OpOpen, "/f"), op(api.OpOpen, "/d/g"), op(api.OpOpen, "/f"))
	x.codes(api.ErrBusy, op(api.OpUnlink, "/f"))
	x.oks(op(api.OpRename, "/f", "/d/e/f"))
	x.codes(api.ErrNone, op(api.OpUnlink, "/f"))
	x.codes(api.ErrBusy, op(api.OpUnlink, "/d/e/f"))
	x.oks(op(api.OpRename, "/d", "/z/d"))
	x.codes(api.ErrBusy, op(api.OpUnlink, "/z/d/e/f"))
	x.codes(api.ErrNotDir, op(api.OpRmdir, "/z/d/e/f"))
	x.oks(write(1, 90, plain.Text(99, 7)), op(api.OpSync), op(api.OpCreate, "/f"), op(api.OpUnlink, "/f"))
	x.codes(api.OK, api.Op{Kind: api.OpRead, H: 3, N: 999})
	x.oks(api.Op{Kind: api.OpClose, H: 1})
	x.codes(api.ErrBusy, op(api.OpUnlink, "/z/d/e/f"))
	x.oks(api.Op{Kind: api.OpClose, H: 3})
	x.oks(op(api.OpUnlink, "/z/d/e/f"), op(api.OpCreate, "/new"))
	// It has the number that the one had which is gone, and isn't open.
	x.oks(op(api.OpUnlink, "/new"))
	x.codes(api.ErrBusy, op(api.OpUnlink, "/z/d/g"))
	x.walks()
	x.opens(x.syncs())
	x.oks(op(api.OpUnlink, "/z/d/g"))
}

// P23.2: the edges of OpRead, OpWrite and OpTruncate, at files of whatever size.
func TestBytes(t *testing.T) {
	t.Parallel()
	for _, size := range []int{0, 1, 127, 128, 129, 300, 640, 767, 768} {
		x := made(t, fmt.Sprint("a file of ", size), 16)
		h := x.files("/f", plain.Text(size, size))
		x.does(write(h, 0, plain.Text(size, 1)))
		for _, off := range append([]int{size - 1, size, size + 1, 200, 300}, plain.Odd()...) {
			for _, n := range append([]int{size, size + 1, 2, 200, 300}, plain.Odd()...) {
				x.does(api.Op{Kind: api.OpRead, H: h, Off: off, N: n})
				x.does(api.Op{Kind: api.OpTruncate, H: h, N: n})
				x.does(write(h, off, plain.Text(max(0, min(n, 800)), 3)))
				x.does(op(api.OpStat, "/f"))
				x.does(api.Op{Kind: api.OpRead, H: h, N: 999})
				x.does(api.Op{Kind: api.OpTruncate, H: h, N: size})
			}
			x.does(write(h, off, nil))
		}
		x.opens(x.syncs())
	}
}

// P23.2: of what is read, and written, N tells how many bytes; where nothing was written they are noughts.
func TestReadAndWrite(t *testing.T) {
	x := made(t, "read and write", 16)
	x.files("/f", nil)
	for _, c := range []struct {
		o    api.Op
		want api.Answer
	}{
		{write(1, 130, []byte("ab")), api.Answer{N: 2}},
		{api.Op{Kind: api.OpRead, H: 1, Off: 128, N: 100}, api.Answer{N: 4, Data: []byte("\x00\x00ab")}},
		{api.Op{Kind: api.OpRead, H: 1, Off: 131, N: 1}, api.Answer{N: 1, Data: []byte("b")}},
		{api.Op{Kind: api.OpRead, H: 1, Off: 132, N: 1}, api.Answer{}},
		{api.Op{Kind: api.OpRead, H: 1, Off: 0, N: 0}, api.Answer{}},
		{api.Op{Kind: api.OpRead, H: 1, Off: -1, N: 1}, api.Answer{Code: api.ErrArg}},
		{api.Op{Kind: api.OpRead, H: 1, N: -1}, api.Answer{Code: api.ErrArg}},
		{write(1, -1, nil), api.Answer{Code: api.ErrArg}},
		{write(1, 769, nil), api.Answer{}},
		{write(1, 767, []byte("xy")), api.Answer{Code: api.ErrBig}},
		{api.Op{Kind: api.OpTruncate, H: 1, N: 769}, api.Answer{Code: api.ErrBig}},
		{api.Op{Kind: api.OpTruncate, H: 1, N: -1}, api.Answer{Code: api.ErrArg}},
		{api.Op{Kind: api.OpTruncate, H: 1, N: 131, Off: 5, Data: []byte("z")}, api.Answer{}},
		{api.Op{Kind: api.OpTruncate, H: 1, N: 133}, api.Answer{}},
		{api.Op{Kind: api.OpRead, H: 1, Off: 129, N: 9}, api.Answer{N: 4, Data: []byte("\x00a\x00\x00")}},
		{api.Op{Kind: api.OpRead, H: 2, N: 9}, api.Answer{Code: api.ErrHandle}},
	} {
		if a := x.does(c.o); !plain.Same(a, c.want) {
			t.Errorf("%v: %v, not %v", c.o, a, c.want)
		}
	}
}

// P23.2: what would be at no path any more isn't renamed.
func TestDeep(t *testing.T) {
	x := made(t, "deep", 16)
	x.deep(6)
	x.codes(api.ErrName, op(api.OpCreate, long+"/7"))
	x.oks(op(api.OpMkdir, "/a"))
	x.codes(api.ErrName, op(api.OpRename, "/1", "/a/1"))
	x.codes(api.ErrLoop, op(api.OpRename, "/1", "/1/2/3/4/5/1"))
	x.oks(op(api.OpRename, "/1/2", "/a/2"), op(api.OpRename, "/1", "/a/2/1"), op(api.OpRename, "/a/2/3/4/5/6", "/6"))
	x.walks()
	x.opens(x.syncs())
}

// P23.2: OpSync does nothing without changes, else one Commit of all of them, and then there are none.
func TestSync(t *testing.T) {
	x := made(t, "sync", 16)
	syncs := func(what string, commits uint64) {
		t.Helper()
		for _, commits := range []uint64{commits, 0} {
			acts, epoch := x.acts(), x.f.Epoch()
			x.opened(x.syncs())
			if x.f.Epoch() != epoch+commits || (x.acts() != acts) != (commits > 0) {
				t.Errorf("%s: %d acts, the epoch %d behind %d", what, x.acts()-acts, x.f.Epoch(), epoch)
			}
		}
	}
	syncs("at first", 0)
	x.grows()
	syncs("files", 1)
	x.oks(op(api.OpStat, "/"), op(api.OpList, "/d"), op(api.OpOpen, "/f"), write(1, 5, nil), api.Op{Kind: api.OpRead, H: 1, N: 9}, op(api.OpRename, "/f", "/f"))
	x.codes(api.ErrNone, op(api.OpUnlink, "/n"))
	x.codes(api.ErrNotEmpty, op(api.OpRmdir, "/d"))
	x.codes(api.ErrBig, write(1, 700, plain.Text(69, 1)))
	x.codes(api.ErrExists, op(api.OpCreate, "/f"))
	syncs("nothing is changed", 0)
	for _, o := range []api.Op{op(api.OpMkdir, "/y"), op(api.OpCreate, "/y/f"), write(1, 5, []byte("x")), {Kind: api.OpTruncate, H: 1, N: 130}, op(api.OpRename, "/f", "/g"), op(api.OpUnlink, "/y/f"), op(api.OpRmdir, "/y")} {
		x.oks(o)
		syncs(fmt.Sprint(o), 1)
	}
	x.oks(api.Op{Kind: api.OpClose, H: 1})
	syncs("closed", 0)
}

// opened tells unless a mirror that is opened anew holds a tree, and leaves the scene's files as they are.
func (x *scene) opened(k plain.Kept) {
	x.t.Helper()
	m, e := mirror.Open(x.tie, x.chips[0], x.chips[1])
	x.want("Open", e, api.OK)
	f, e := fs.Mount(m)
	x.want("Mount", e, api.OK)
	if got := plain.Read(f.Do); !maps.Equal(got, k) {
		x.t.Fatalf("%s: what is kept is %q, not %q", x.what, got, k)
	}
}

// P23.2: with an error of the Commit the changes stay, to be kept by a later OpSync.
func TestSyncFails(t *testing.T) {
	x := made(t, "down", 16)
	x.grows()
	k := x.syncs()
	x.oks(op(api.OpUnlink, "/f"), op(api.OpOpen, "/d/g"), write(1, 200, []byte("more")))
	x.p.Cut(0, 0)
	if a := x.f.Do(op(api.OpSync)); !plain.Same(a, api.Answer{Code: api.ErrDown}) {
		t.Error(a)
	}
	x.p.On()
	x.walks()
	x.opened(k)
	x.opens(x.syncs())

	x = made(t, "worn", 16, noSpares, noSpares)
	x.grows()
	x.syncs()
	x.oks(op(api.OpUnlink, "/f"), op(api.OpOpen, "/d/g"), write(1, 200, []byte("more")))
	x.chips[0].Fail(true, 0)
	x.chips[1].Fail(true, 0)
	if a := x.f.Do(op(api.OpSync)); !plain.Same(a, api.Answer{Code: api.ErrWorn}) {
		t.Error(a)
	}
	x.walks()
	x.opens(x.syncs())
}

// P23.2: OpSync's ErrNoSpace, where the Limit has become less; once there is less it is OK.
func TestSyncNoSpace(t *testing.T) {
	x := made(t, "a lesser chip", 18)
	x.grows()
	x.syncs()
	x.fences(1)
	x.chips[1] = x.blank(16)
	x.f.Replace(1, x.chips[1])
	limit := x.f.Limit()
	for i := 0; x.plain.Nodes() < limit; i++ {
		x.files(fmt.Sprint("/z/", i), plain.Text(min(768, 128*(limit-1-x.plain.Nodes())), i))
	}
	back := resync.New(x.m)
	for done := false; !done; {
		var e api.Errno
		done, e = back.Step()
		x.want("Step", e, api.OK)
	}
	if x.f.Limit() >= limit {
		t.Fatal("the Limit isn't less")
	}
	acts := x.acts()
	x.codes(api.ErrNoSpace, op(api.OpSync))
	x.codes(api.ErrNoSpace, op(api.OpCreate, "/x"))
	x.oks(op(api.OpRename, "/f", "/x"))
	x.walks()
	for h := 1; h <= 6 && x.plain.Nodes() > x.f.Limit(); h++ {
		x.codes(api.ErrNoSpace, op(api.OpSync))
		x.does(api.Op{Kind: api.OpTruncate, H: h})
	}
	if x.acts() != acts {
		t.Error("something was written")
	}
	x.opens(x.syncs())
}

// P23.2, P23.3: what can't be read is ErrCorrupt, and nothing else; what is changed is told as it is.
func TestCorrupt(t *testing.T) {
	x := made(t, "corrupt", 16)
	x.grows() // the inodes are: 2 /d, 3 /d/e, 4 /z, 5 /f, 6 /d/g, 7 /d/e/h
	x.syncs()
	x.oks(op(api.OpOpen, "/f"), op(api.OpOpen, "/d/g"))
	for chip := range 2 {
		if chip == 1 {
			x.walks() // the other chip can read all
		}
		for _, key := range []int{8 * 5, 8*6 + 2, 8 * 7} {
			x.spoil(chip, key)
		}
	}
	for _, o := range []api.Op{
		op(api.OpOpen, "/f"), op(api.OpStat, "/f"), op(api.OpList, "/f"), op(api.OpUnlink, "/f"), op(api.OpRmdir, "/f"), op(api.OpRename, "/f", "/x"), op(api.OpCreate, "/f/x"), op(api.OpStat, "/f/x"), op(api.OpRename, "/d", "/x"), op(api.OpUnlink, "/d/e/h"),
		{Kind: api.OpRead, H: 1, N: 1}, write(1, 0, []byte("x")), write(1, -1, nil), {Kind: api.OpTruncate, H: 1, N: -1},
		{Kind: api.OpRead, H: 2, Off: 100, N: 40}, write(2, 130, []byte("x")), {Kind: api.OpTruncate, H: 2, N: 130},
	} {
		if a := x.f.Do(o); !plain.Same(a, api.Answer{Code: api.ErrCorrupt}) {
			t.Errorf("%v: %v", o, a)
		}
	}
	x.oks(api.Op{Kind: api.OpRead, H: 2, N: 128}, op(api.OpStat, "/d/g"), op(api.OpList, "/d/e"), op(api.OpRename, "/d/g", "/g"), write(2, 128, plain.Text(122, 4)), api.Op{Kind: api.OpRead, H: 2, N: 999}, op(api.OpSync), api.Op{Kind: api.OpRead, H: 2, N: 999}, api.Op{Kind: api.OpClose, H: 2}, op(api.OpUnlink, "/g"), op(api.OpSync))
	x.spoil(0, 8)
	x.spoil(1, 8)
	x.fails("the top", fs.Mount, api.ErrCorrupt)
	for _, kind := range []int{api.OpCreate, api.OpMkdir, api.OpOpen, api.OpUnlink, api.OpRmdir, api.OpRename, api.OpStat, api.OpList} {
		if a := x.f.Do(op(kind, "/z", "/y")); !plain.Same(a, api.Answer{Code: api.ErrCorrupt}) {
			t.Errorf("%d: %v", kind, a)
		}
	}
}

// P23.5: what is handed in isn't changed, its spare room neither, and isn't kept.
func TestHandedIn(t *testing.T) {
	x := made(t, "handed in", 16)
	room := plain.Text(900, 2)
	was := slices.Clone(room)
	x.oks(op(api.OpCreate, "/f"), op(api.OpOpen, "/f"))
	for _, o := range []api.Op{write(1, 3, room[10:500]), write(1, 300, room[:0]), write(1, 100, room[200:201]), write(1, 700, room)} {
		x.does(o)
		if !slices.Equal(room, was) {
			t.Errorf("%v has changed what was handed in", o)
		}
	}
	clear(room)
	x.walks()
	x.opens(x.syncs())
}

// P23.5: answers are new memory.
func TestAnswers(t *testing.T) {
	x := made(t, "answers", 20)
	x.grows()
	x.files("/g", plain.Text(700, 4))
	for range 2 {
		for range 2 {
			for _, o := range []api.Op{{Kind: api.OpRead, H: 1, N: 999}, {Kind: api.OpRead, H: 1, Off: 128, N: 128}, op(api.OpList, "/"), op(api.OpList, "/d")} {
				a := x.does(o)
				clear(a.Data[:cap(a.Data)])
				clear(a.Names[:cap(a.Names)])
			}
		}
		x.walks()
		x.syncs()
	}
	a, b := x.does(op(api.OpList, "/")), x.does(op(api.OpList, "/"))
	a.Names[0] = "other"
	if b.Names[0] == "other" {
		t.Error("two answers share their names")
	}
	x.opens(x.plain.Kept())
}

// P23.3: the chips may be of any numbers of blocks, and have bad ones; the Limit is the lesser one's.
func TestBlocks(t *testing.T) {
	for _, blocks := range []int{16, 17, 29, 40} {
		x := made(t, fmt.Sprint(blocks, " blocks"), blocks, []int{2, 9}, []int{3})
		for i := range 5 {
			for j := range 4 {
				path := fmt.Sprint("/", i)
				if j > 0 {
					path += fmt.Sprint("/", j)
				}
				if j == 0 {
					x.does(op(api.OpMkdir, path))
				} else if x.does(op(api.OpCreate, path)).Code == api.OK {
					h := x.does(op(api.OpOpen, path)).N
					x.does(write(h, i, plain.Text(768-i, j)))
					x.does(api.Op{Kind: api.OpClose, H: h})
				}
			}
			x.opens(x.syncs())
		}
		if x.plain.Nodes() < x.m.Limit()-7 {
			t.Errorf("%s: %d nodes of %d", x.what, x.plain.Nodes(), x.m.Limit())
		}
	}
}
