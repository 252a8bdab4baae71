package world_test

import (
	"fmt"
	"testing"

	"keelson/api"
	"keelson/plain"
)

// refuses does an EvMount that must answer an error; no act is done.
func (x *course) refuses(e api.Errno) {
	x.t.Helper()
	acts, view := x.acts(), x.w.View()
	if got := x.code(api.EvMount, 0, 0, 0); got != e || x.acts() != acts || x.w.View() != view {
		x.fatal("not", e, "without an act")
	}
}

// P24.6: a chip that was left behind is never what is mounted, however it was, and whatever becomes of the other one.
func TestLeftBehind(t *testing.T) {
	for chip := range 2 {
		for way, leave := range []func(x *course){
			func(x *course) { x.oks(op(api.OpMkdir, "/more"), op(api.OpSync)) },
			func(x *course) { x.mounts() },
			func(x *course) { x.mounts(); x.oks(op(api.OpUnlink, "/f"), op(api.OpSync)) },
		} {
			x := begun(t, fmt.Sprintf("the chip %d, way %d", chip, way), 16)
			x.grows()
			x.ok(api.EvOut, chip, 0, 0)
			leave(x)
			x.ok(api.EvIn, chip, 0, 0)
			x.ok(api.EvOut, 1-chip, 0, 0)
			x.refuses(api.ErrStale)
			x.refuses(api.ErrStale)
			x.ok(api.EvIn, 1-chip, 0, 0)
			x.mounts()
			x.walks()
			x.ok(api.EvDie, 1-chip, 0, 0)
			x.refuses(api.ErrStale)
			x.ok(api.EvNew, 1-chip, 0, 0)
			x.refuses(api.ErrStale)
			x.ok(api.EvNew, chip, 0, 0)
			x.refuses(api.ErrNoReplica)
			x.ok(api.EvOut, chip, 0, 0)
			x.refuses(api.ErrNoReplica)
		}
	}
}

// P24.6: nor is a chip that hasn't wholly come back.
func TestNotWhollyBack(t *testing.T) {
	for chip := range 2 {
		for _, lost := range []bool{true, false} {
			for steps := 0; ; steps++ {
				x := begun(t, fmt.Sprintf("the chip %d, blank: %v, behind %d steps", chip, lost, steps), 16)
				x.grows()
				x.ok(api.EvOut, chip, 0, 0)
				x.oks(op(api.OpMkdir, "/more"), op(api.OpSync))
				x.ok(api.EvIn, chip, 0, 0)
				if lost {
					x.ok(api.EvNew, chip, 0, 0)
				}
				for range steps {
					x.ok(api.EvResync, 0, 0, 0)
				}
				back := x.member(chip)
				x.ok(api.EvOut, 1-chip, 0, 0)
				if back {
					x.mounts()
					x.walks()
					break
				}
				want := api.ErrStale
				if lost && steps == 0 {
					want = api.ErrNoReplica
				}
				x.refuses(want)
				x.ok(api.EvIn, 1-chip, 0, 0)
				x.mounts()
				x.comesBack()
				x.without(1 - chip)
			}
		}
	}
}

// worn gives a world with two chips that have no spare.
func worn(t *testing.T, what string) *course {
	t.Helper()
	x := begun(t, what, 16)
	x.wears = true
	x.grows()
	for i := range api.Spares {
		for chip := range 2 {
			x.ok(api.EvFail, chip, 0, 0)
		}
		x.makes("/w", plain.Text(10, i))
		x.syncs()
		x.oks(op(api.OpUnlink, "/w"), op(api.OpSync))
	}
	if x.w.View().Members != api.Both {
		x.fatal("a chip is fenced out")
	}
	return x
}

// P24.6: an OpSync in which a chip is worn is kept by the other one, or isn't kept at all, as it answers: wherever either one fails.
func TestWorn(t *testing.T) {
	t.Parallel()
	met := map[string]int{}
	for one := range 8 {
		for two := range 8 {
			for _, out := range []int{-1, 0, 1} {
				x := worn(t, fmt.Sprintf("the programs %d and %d, %d is out", one, two, out))
				x.oks(op(api.OpRename, "/f", "/g"), op(api.OpMkdir, "/h"))
				x.ok(api.EvFail, 0, one, 0)
				x.ok(api.EvFail, 1, two, 0)
				if out >= 0 {
					x.ok(api.EvOut, out, 0, 0)
				}
				x.asks(op(api.OpSync))
				for range 3 {
					x.code(api.EvMount, 0, 0, 0)
				}
				x.walks()
				x.ok(api.EvFail, 0, -1, 0)
				x.ok(api.EvFail, 1, -1, 0)
				x.makes("/k", []byte("k"))
				x.syncs()
				x.mounts()
				x.adds(met)
			}
		}
	}
	wants(t, met, "an OpSync", "a worn OpSync")
}
