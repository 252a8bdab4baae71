package world_test

import (
	"fmt"
	"testing"

	"keelson/api"
	"keelson/plain"
)

// P24.8: with two turned bits in each page of one chip all answers stay, also behind OpSyncs, and EvMounts; behind a pass they do with two in each page of the other one.
func TestEachPage(t *testing.T) {
	t.Parallel()
	for first := range 2 {
		for _, way := range []string{"as it is", "kept", "mounted", "replaced", "alone"} {
			x := begun(t, fmt.Sprintf("first the chip %d, %s", first, way), 16)
			x.grows()
			for i := range 4 {
				chip := (first + i) % 2
				x.ruin(chip)
				x.walks()
				x.goesRuined(way, chip)
				x.walks()
				x.comesBack()
				x.walks()
				x.scrubs()
				x.walks()
			}
			x.without(0)
			x.without(1)
		}
	}
}

// goesRuined goes on with a chip that can't be read.
func (x *course) goesRuined(way string, chip int) {
	x.t.Helper()
	if way == "as it is" {
		return
	}
	x.oks(op(api.OpOpen, "/d/g"), api.Op{Kind: api.OpWrite, H: 1, Off: chip, Data: plain.Text(200, len(x.log))}, api.Op{Kind: api.OpClose, H: 1})
	switch way {
	case "kept":
		for i := range 30 {
			x.oks(op(api.OpCreate, "/k"), op(api.OpSync), op(api.OpUnlink, "/k"))
			if i%5 == 0 {
				x.walks()
			}
		}
	case "mounted":
		x.syncs()
		x.mounts()
	case "replaced":
		x.ok(api.EvNew, chip, 0, 0)
		x.syncs()
	case "alone":
		x.ok(api.EvOut, chip, 0, 0)
		x.syncs()
		x.ok(api.EvIn, chip, 0, 0)
		x.ok(api.EvOut, 1-chip, 0, 0)
		x.asks(op(api.OpStat, "/"))
		x.ok(api.EvIn, 1-chip, 0, 0)
	}
}

// storm turns bits of a chip's pages, of some more and of others fewer.
func (x *script) storm(chip int) {
	x.t.Helper()
	most := 1 + x.rand.Intn(4)
	for n := range x.blocks * api.BlockPages {
		for range x.rand.Intn(1+most) * x.rand.Intn(2) {
			x.ok(api.EvFlip, chip, n, x.bit())
		}
	}
}

// P24.8: and so it is whatever bits turn, in the course of operations, OpSyncs and EvMounts.
func TestTwoCopies(t *testing.T) {
	t.Parallel()
	for seed := range int64(60) {
		x := newScript(t, "two copies", seed)
		for round := range 6 {
			chip := round % 2
			for range 1 + x.rand.Intn(3) {
				x.storm(chip)
				for range 20 {
					x.some()
				}
				x.walks()
				if x.rand.Intn(4) > 0 {
					x.syncs()
				}
				if x.rand.Intn(3) == 0 {
					x.mounts()
				}
			}
			x.comesBack()
			for range pass {
				x.ok(api.EvScrub, 0, 0, 0)
				if x.rand.Intn(60) == 0 {
					x.some()
				}
			}
			x.walks()
		}
	}
}

// P24.8: what can't be read on either chip is ErrCorrupt, never other bytes.
func TestNeverOtherBytes(t *testing.T) {
	t.Parallel()
	x := begun(t, "neither can be read", 16)
	x.grows()
	x.oks(op(api.OpOpen, "/f"), op(api.OpMkdir, "/new"), op(api.OpRmdir, "/new"))
	x.ruins = true
	x.ruin(0)
	x.ruin(1)
	for _, o := range []api.Op{op(api.OpStat, "/f"), op(api.OpList, "/d"), op(api.OpCreate, "/d/x"), op(api.OpRename, "/d/e", "/x"), {Kind: api.OpRead, H: 1, N: 9}} {
		if a := x.asks(o); a.Code != api.ErrCorrupt {
			t.Errorf("%v: %v", o, a)
		}
	}
	if a := x.asks(op(api.OpList, "/")); a.Code != api.OK {
		t.Errorf("what isn't kept yet can't turn: %v", a)
	}
	for seed := range int64(80) {
		x := newScript(t, "never other bytes", seed)
		x.ruins = true
		for range 30 {
			x.some()
		}
		x.syncs()
		for range 150 {
			x.ruinStep()
		}
	}
}

// ruinStep does something with two chips of which any bits turn.
func (x *script) ruinStep() {
	x.t.Helper()
	chip := x.rand.Intn(2)
	switch n := x.rand.Intn(24); {
	case n == 0:
		for range x.rand.Intn(200) {
			x.ok(api.EvFlip, x.rand.Intn(2), x.rand.Intn(x.blocks*api.BlockPages), x.bit())
		}
	case n < 4:
		x.asks(op(api.OpSync))
	case n < 6:
		x.scrubsSome()
	case n < 8:
		x.resyncs()
	case n == 8 && x.has(1-chip):
		x.ok(api.EvOut, chip, 0, 0)
	case n < 12:
		x.ok(api.EvIn, chip, 0, 0)
	default:
		x.some()
	}
}
