package fs_test

import (
	"maps"
	"testing"

	"keelson/api"
	"keelson/fs"
	"keelson/mirror"
	"keelson/plain"
	"keelson/view"
)

// fails tells unless Mount, or Format, answers an error and nil.
func (x *scene) fails(what string, call func(m *mirror.Mirror) (*fs.FS, api.Errno), e api.Errno) {
	x.t.Helper()
	if f, got := call(x.m); f != nil || got != e {
		x.t.Errorf("%s: %v, %v, not %v", what, f, got, e)
	}
}

// P23.1, P23.4: the chapter's example.
func TestExample(t *testing.T) {
	for _, sync := range []bool{false, true} {
		x := made(t, "example", 16)
		x.oks(op(api.OpCreate, "/f"))
		if h := x.codes(api.OK, op(api.OpOpen, "/f")); h.N != 1 {
			t.Error(h)
		}
		x.oks(write(1, 0, []byte("hi")))
		want := plain.Empty()
		if sync {
			x.syncs()
			want["/f"] = plain.Item{Kind: api.File, Data: "hi"}
		}
		for range 2 {
			f, e := fs.Mount(x.m)
			x.want("Mount", e, api.OK)
			if got := plain.Read(f.Do); !maps.Equal(got, want) {
				t.Errorf("%v: %q", sync, got)
			}
			x.reopens()
		}
	}
}

// P23.1: Mount answers what Find of the top answers, with nil, and does no act.
func TestMountErrors(t *testing.T) {
	x := bare(t, "nothing is there", 16)
	x.fails("nothing is there", fs.Mount, api.ErrNone)
	x.want("Commit", x.m.Commit(api.Change{Key: 7, Body: []byte{2, 0}}, api.Change{Key: 9, Body: []byte{2, 0}}), api.OK)
	x.fails("but other nodes", fs.Mount, api.ErrNone)
	x.want("Commit", x.m.Commit(api.Change{Key: 8, Body: []byte("none")}), api.OK)
	x.fails("the top is no inode", fs.Mount, api.ErrCorrupt)
	x.want("Commit", x.m.Commit(api.Change{Key: 8, Gone: true}), api.OK)
	x.fails("the top is gone", fs.Mount, api.ErrNone)

	x = made(t, "with files", 16)
	acts := x.acts()
	x.off()
	x.fails("no power", fs.Mount, api.ErrDown)
	x.chips[0].Put(false)
	x.chips[1].Put(false)
	x.fails("no power, no chip", fs.Mount, api.ErrDown)
	x.p.On()
	x.fails("no chip", fs.Mount, api.ErrDead)
	x.chips[0].Put(true)
	x.chips[1].Put(true)
	x.spoil(0, 8)
	if f, e := fs.Mount(x.m); f == nil || e != api.OK {
		t.Errorf("the other chip can read the top: %v", e)
	}
	x.spoil(1, 8)
	x.fails("no chip can read the top", fs.Mount, api.ErrCorrupt)
	if x.acts() != acts {
		t.Error("Mount does acts")
	}
}

// P23.1: whatever the top is, as long as Find answers OK; the operations tell the rest.
func TestMountTop(t *testing.T) {
	x := bare(t, "the top is a file", 16)
	x.want("Commit", x.m.Commit(api.Change{Key: 8, Body: []byte{1, 2, 0}}, api.Change{Key: 9, Body: []byte("ab")}), api.OK)
	f, e := fs.Mount(x.m)
	x.want("Mount", e, api.OK)
	for _, c := range []struct {
		o    api.Op
		want api.Answer
	}{
		{op(api.OpStat, "/"), api.Answer{N: 2, Kind: api.File}},
		{op(api.OpList, "/"), api.Answer{Code: api.ErrNotDir}},
		{op(api.OpCreate, "/a"), api.Answer{Code: api.ErrNotDir}},
		{op(api.OpOpen, "/"), api.Answer{N: 1}},
		{api.Op{Kind: api.OpRead, H: 1, N: 9}, api.Answer{N: 2, Data: []byte("ab")}},
		{op(api.OpUnlink, "/"), api.Answer{Code: api.ErrBusy}},
		{api.Op{Kind: api.OpClose, H: 1}, api.Answer{}},
		{op(api.OpUnlink, "/"), api.Answer{Code: api.ErrArg}},
		{op(api.OpSync), api.Answer{}},
	} {
		if a := f.Do(c.o); !plain.Same(a, c.want) {
			t.Errorf("%v: %v, not %v", c.o, a, c.want)
		}
	}
}

// P23.1: no handles are open, nothing is changed that isn't kept, and Mount does no act.
func TestMount(t *testing.T) {
	x := made(t, "Mount", 16)
	x.grows()
	k := x.syncs()
	x.files("/not kept", plain.Text(9, 9))
	x.codes(api.OK, op(api.OpOpen, "/f"))
	acts, epoch := x.acts(), x.m.Epoch()
	elder, was := x.f, x.plain
	for range 2 {
		f, e := fs.Mount(x.m)
		x.want("Mount", e, api.OK)
		x.holding(f, k)
		for h := range 8 {
			x.codes(api.ErrHandle, api.Op{Kind: api.OpClose, H: h})
		}
		x.walks()
		x.syncs()
		if x.acts() != acts || x.m.Epoch() != epoch {
			t.Fatal("something was written")
		}
		x.files("/of one alone", nil)
	}
	x.f, x.plain = elder, was
	x.walks()
}

// P23.1: Format answers the Put's error ahead of the Commit's, with nil.
func TestFormatErrors(t *testing.T) {
	x := bare(t, "Format", 16)
	acts := x.acts()
	x.chips[0].Put(false)
	x.chips[1].Put(false)
	x.fails("no chip", fs.Format, api.ErrNoSpace)
	x.off()
	x.fails("no chip, no power", fs.Format, api.ErrNoSpace)
	x.chips[0].Put(true)
	x.fails("no power", fs.Format, api.ErrDown)
	x.chips[1].Put(true)
	x.p.On()
	if x.acts() != acts {
		t.Error("something was written")
	}
	x.fails("nothing is there yet", fs.Mount, api.ErrNone)

	var full []api.Change
	for key := range x.m.Limit() {
		full = append(full, api.Change{Key: 100 + key})
	}
	x.want("Commit", x.m.Commit(full...), api.OK)
	x.fails("no node more", fs.Format, api.ErrNoSpace)
	x.want("Commit", x.m.Commit(api.Change{Key: 100, Gone: true}), api.OK)
	if f, e := fs.Format(x.m); f == nil || e != api.OK {
		t.Errorf("one node more: %v", e)
	}

	x = bare(t, "worn", 16, noSpares, noSpares)
	x.chips[0].Fail(true, 0)
	x.chips[1].Fail(true, 0)
	x.fails("worn", fs.Format, api.ErrWorn)
	x.fails("worn", fs.Mount, api.ErrNone)
}

// P23.1: where the power goes in Format it is ErrDown, with nil; it may be done again.
func TestFormatCut(t *testing.T) {
	for _, keep := range keeps {
		for after := 0; ; after++ {
			x := bare(t, "Format is cut", 16)
			x.p.Cut(after, keep)
			f, e := fs.Format(x.m)
			x.p.On()
			if e == api.OK {
				x.holding(f, plain.Empty())
				if after < 4 {
					t.Errorf("%d acts", after)
				}
				break
			}
			x.fails("cut", func(*mirror.Mirror) (*fs.FS, api.Errno) { return f, e }, api.ErrDown)
			if after%2 == 0 {
				x.reopens()
			}
			if f, e = fs.Mount(x.m); e == api.OK {
				x.holding(f, plain.Empty())
				x.walks()
			} else {
				x.fails("behind the cut", fs.Mount, api.ErrNone)
			}
			f, e = fs.Format(x.m)
			x.want("Format again", e, api.OK)
			x.holding(f, plain.Empty())
			x.grows()
			x.opens(x.syncs())
		}
	}
}

// P23.1: behind Format there are no files, though there were; no handles, and nothing that isn't kept.
func TestFormat(t *testing.T) {
	x := made(t, "Format", 16)
	x.codes(api.ErrHandle, api.Op{Kind: api.OpClose, H: 1})
	acts := x.acts()
	x.syncs()
	if x.acts() != acts {
		t.Error("something isn't kept")
	}
	x.opens(plain.Empty())
	x.grows()
	x.syncs()
	epoch := x.m.Epoch()
	f, e := fs.Format(x.m)
	x.want("Format", e, api.OK)
	if x.m.Epoch() != epoch+1 {
		t.Errorf("the epoch %d behind %d", x.m.Epoch(), epoch)
	}
	if got := plain.Read(f.Do); !maps.Equal(got, plain.Empty()) {
		t.Error(got)
	}
	x.reopens()
	f, e = fs.Mount(x.m)
	x.want("Mount", e, api.OK)
	if got := plain.Read(f.Do); !maps.Equal(got, plain.Empty()) {
		t.Error(got)
	}
}

// methods are those of a mirror.
type methods interface {
	Epoch() uint64
	Live() api.Live
	Limit() int
	Node(key int) ([]byte, api.Errno)
	Commit(changes ...api.Change) api.Errno
	Member(chip int) bool
	Up(chip int) bool
	Lead() (int, bool)
	Off() bool
	View() api.View
	Lives(chip int) bool
	Recall(chip int) api.Errno
	Renew(chip int) api.Errno
	Join(chip int) api.Errno
	Seen(chip int) api.Chip
}

// P23.1: the files have the methods of the mirror that they are over.
func TestMethods(t *testing.T) {
	x := made(t, "methods", 16)
	x.grows()
	x.syncs()
	var a, b methods = x.f, x.m
	if x.f.Mirror != x.m || a.Epoch() != b.Epoch() || a.Live() != b.Live() || a.Limit() != b.Limit() || a.View() != b.View() || a.Seen(1) != b.Seen(1) {
		t.Error("they tell something else")
	}
	one, _ := x.f.Store(1)
	if two, ok := x.m.Store(1); one != two || !ok {
		t.Error("Store")
	}
	x.fences(1)
	x.chips[1] = x.blank(18)
	x.f.Replace(1, x.chips[1])
	if a.Up(1) || b.Up(1) || !a.Lives(1) || a.Off() || a.Member(1) || a.Recall(1) != api.ErrNoLog || a.Renew(1) != api.OK || !b.Up(1) || a.Join(1) != api.ErrBusy {
		t.Error("they do something else")
	}
}

// P23.1: files over two mirrors are by themselves; those over one share what is kept alone.
func TestOnesOwn(t *testing.T) {
	one, two := made(t, "one", 16), made(t, "two", 16)
	one.grows()
	one.codes(api.OK, op(api.OpOpen, "/f"))
	two.walks()
	two.codes(api.ErrHandle, api.Op{Kind: api.OpClose, H: 1})
	two.files("/f", plain.Text(700, 5))
	two.syncs()
	one.walks()
	one.syncs()
	two.walks()
	if one.tie.Get() != (api.View{Number: 1, Members: api.Both, Base: 1}) || view.NewTie().Get() != (api.View{}) {
		t.Error("the tie")
	}
}
