package fs_test

import (
	"fmt"
	"math/rand"
	"testing"

	"keelson/api"
	"keelson/bbt"
	"keelson/scrub"
)

// storm turns any bits in pages of a chip's records.
func storm(x *script, chip int) {
	table, e := bbt.Open(x.chips[chip])
	x.want("bbt.Open", e, api.OK)
	s, _ := x.f.Store(chip)
	for _, segment := range s.Segments() {
		block, _ := table.At(segment.Block)
		for _, at := range segment.Records {
			for range x.rand.Intn(4) * x.rand.Intn(2) {
				x.want("Flip", x.chips[chip].Flip(block, at.Page, x.rand.Intn(2064)), api.OK)
			}
		}
	}
}

// P23.3: if any bits turn on one chip alone, all answers stay; behind a pass of the Scrub they do if then any turn on the other one.
func TestTurned(t *testing.T) {
	t.Parallel()
	for seed := range int64(60) {
		x := newScript(t, seed, false)
		x.scene = made(t, fmt.Sprint("seed ", seed), 18)
		x.anew()
		x.rand = rand.New(rand.NewSource(seed))
		for round := range 6 {
			chip := round % 2
			for range 4 {
				storm(x, chip)
				for range 20 {
					x.ask(x.some())
				}
				x.walks()
				x.keeps()
				x.walks()
				if x.rand.Intn(4) == 0 {
					x.mounts()
				}
			}
			x.comesBack()
			s := scrub.New(x.m)
			for done := false; !done; {
				var e api.Errno
				done, e = s.Step()
				x.want("a Step of the Scrub", e, api.OK)
			}
			x.walks()
		}
	}
}
