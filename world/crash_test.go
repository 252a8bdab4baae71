package world_test

import (
	"fmt"
	"testing"

	"keelson/api"
	"keelson/plain"
)

// scene is what is done ahead of an event in which the power goes, in an act of which so much is kept, and that.
type scene struct {
	name  string
	ahead func(x *course)
	cut   func(x *course, after, keep int)
}

// syncCut does an OpSync in which the power goes.
func syncCut(x *course, after, keep int) {
	x.ok(api.EvCut, 0, after, keep)
	x.asks(op(api.OpSync))
}

// mountCut does an EvMount in which the power goes.
func mountCut(x *course, after, keep int) { x.code(api.EvMount, 0, after+1, keep) }

// stepsCut gives what does steps in which the power goes.
func stepsCut(kind, steps int) func(x *course, after, keep int) {
	return func(x *course, after, keep int) {
		x.ok(api.EvCut, 0, after, keep)
		for range steps {
			x.code(kind, 0, 0, 0)
		}
	}
}

// changes changes what grows has made, and keeps nothing of that.
func changes(x *course) {
	x.oks(op(api.OpRename, "/d/e", "/z/e"), op(api.OpUnlink, "/f"), op(api.OpOpen, "/d/g"), api.Op{Kind: api.OpWrite, H: 1, Off: 99, Data: plain.Text(200, 9)})
}

// with gives what changes what grows has made, and then lets something become of a chip.
func with(kind, chip int) func(x *course) {
	return func(x *course) {
		changes(x)
		x.ok(kind, chip, 1, 0)
	}
}

// fenced gives what fences a chip out that is in again then, and changes what grows has made.
func fenced(chip int) func(x *course) {
	return func(x *course) {
		x.ok(api.EvOut, chip, 0, 0)
		x.oks(op(api.OpMkdir, "/n"), op(api.OpSync))
		x.ok(api.EvIn, chip, 0, 0)
		changes(x)
	}
}

// turned changes what grows has made, and turns a bit of each page of either chip.
func turned(x *course) {
	changes(x)
	for n := range x.blocks * api.BlockPages {
		x.ok(api.EvFlip, n%2, n, 7*n)
	}
}

// syncScenes are scenes of OpSyncs.
func syncScenes() []scene {
	return []scene{
		{"an OpSync", changes, syncCut},
		{"an OpSync with the chip 0 alone", fenced(1), syncCut},
		{"an OpSync with the chip 1 alone", fenced(0), syncCut},
		{"an OpSync that fences the chip 0 out", with(api.EvOut, 0), syncCut},
		{"an OpSync that fences the chip 1 out", with(api.EvOut, 1), syncCut},
		{"an OpSync with a new chip", with(api.EvNew, 1), syncCut},
		{"an OpSync in which a program fails", with(api.EvFail, 0), syncCut},
		{"an OpSync in which a program of the chip 1 fails", with(api.EvFail, 1), syncCut},
		{"an OpSync with turned bits", turned, syncCut},
	}
}

// otherScenes are scenes of other events.
func otherScenes() []scene {
	return []scene{
		{"a mount", changes, mountCut},
		{"a mount that fences the chip 0 out", with(api.EvOut, 0), mountCut},
		{"a mount that fences the chip 1 out", with(api.EvNew, 1), mountCut},
		{"a resync of the chip 0", fenced(0), stepsCut(api.EvResync, 20)},
		{"a resync of the chip 1", fenced(1), stepsCut(api.EvResync, 20)},
		{"a resync of a new chip", with(api.EvNew, 0), stepsCut(api.EvResync, 46)},
		{"a pass", turned, stepsCut(api.EvScrub, pass)},
	}
}

// cutAt gives a world behind a scene, and tells whether the power went.
func cutAt(t *testing.T, s scene, after, keep int) (*course, bool) {
	t.Helper()
	x := begun(t, fmt.Sprintf("%s, Cut(%d, %d)", s.name, after, keep), 16)
	x.grows()
	s.ahead(x)
	s.cut(x, after, keep)
	return x, x.w.Off()
}

// goesOn mounts what is there behind a cut, with both chips, or one of them at first; both are members again then, and either one has the same tree.
func (x *course) goesOn(without int) {
	x.t.Helper()
	if without >= 0 && x.lives(without) && x.has(1-without) {
		x.ok(api.EvOut, without, 0, 0)
	}
	x.mounts()
	x.walks()
	for chip := range x.chips {
		x.ok(api.EvIn, chip, 0, 0)
	}
	x.mounts()
	x.comesBack()
	x.asks(op(api.OpMkdir, "/then")) // where there is room for it
	x.syncs()
	x.without(0)
	x.without(1)
}

// P24.5: wherever the power goes, and whatever is kept of that act, what is mounted is the tree ahead of it, or the one behind it, whole.
func TestCutAnywhere(t *testing.T) {
	t.Parallel()
	for _, s := range append(syncScenes(), otherScenes()...) {
		t.Run(s.name, func(t *testing.T) {
			t.Parallel()
			met := map[string]int{}
			for i, keep := range []int{0, 1, 8, 130, 257, 258} {
				for after := 0; ; after++ {
					x, off := cutAt(t, s, after, keep)
					x.goesOn((i+after)%3 - 1)
					x.adds(met)
					if !off {
						break
					}
				}
			}
			if sync := met["a cut OpSync"] > 0; met["ahead of a cut"] == 0 && sync || met["behind a cut"] == 0 && sync {
				t.Error(met)
			}
		})
	}
}

// P24.5: and so it is if the power goes again in the mount.
func TestCutAgain(t *testing.T) {
	t.Parallel()
	for _, s := range syncScenes() {
		for after := 0; ; after++ {
			x, off := cutAt(t, s, after, 258*(after%2))
			for again := 1; off; again++ {
				if chip := after % 3; chip < 2 && x.has(1-chip) {
					x.ok(api.EvOut, chip, 0, 0)
				}
				if x.code(api.EvMount, 0, again, keeps[(after+again)%len(keeps)]) == api.OK {
					break
				}
				if again > 9 {
					x.fatal("a mount has that many acts")
				}
			}
			x.goesOn(-1)
			if !off {
				break
			}
		}
	}
}

// P24.5: once what is ahead of an OpSync in which the power went is mounted, with one chip alone, what is behind it never comes back, whatever the other chip has, and though that goes on.
func TestCutOneBehindTheOther(t *testing.T) {
	t.Parallel()
	met := map[string]int{}
	for first := range 16 {
		for second := range 16 {
			x := begun(t, fmt.Sprintf("Cut(%d), Cut(%d)", first, second), 16)
			x.grows()
			for i, after := range []int{first, second} {
				x.makes(fmt.Sprint("/", i), plain.Text(100, i))
				x.ok(api.EvCut, 0, after, 258*(i+second%2))
				x.asks(op(api.OpSync))
				x.ok(api.EvOut, i, 0, 0)
				if e := x.code(api.EvMount, 0, 0, 0); e == api.ErrStale {
					x.ok(api.EvIn, i, 0, 0)
					x.ok(api.EvIn, 1-i, 0, 0)
					x.mounts()
				}
				x.ok(api.EvIn, i, 0, 0)
			}
			x.goesOn(-1)
			x.adds(met)
		}
	}
	wants(t, met, "a cut OpSync", "ahead of a cut", "behind a cut", "mount errno 50")
}

// P24.5: whether there is power, and a chip that has all, tells whether EvMount is OK, whatever was answered ahead of that.
func TestMountAsLongAs(t *testing.T) {
	x := begun(t, "as long as", 16)
	x.grows()
	for i := range 40 {
		x.oks(op(api.OpMkdir, "/x"))
		x.ok(api.EvCut, 0, i%14, keeps[i%len(keeps)])
		x.asks(op(api.OpSync))
		x.ok(api.EvOut, 0, 0, 0)
		x.ok(api.EvOut, 1, 0, 0)
		if e := x.code(api.EvMount, 0, i%3, 0); e != api.ErrNoReplica {
			t.Errorf("%d: %v", i, e)
		}
		x.ok(api.EvIn, i/2%2, 0, 0)
		x.mounts()
		x.ok(api.EvIn, 1-i/2%2, 0, 0)
		x.comesBack()
		if a := x.asks(op(api.OpRmdir, "/x")); a.Code == api.OK {
			x.syncs()
		}
	}
}
