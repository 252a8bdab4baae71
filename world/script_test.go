package world_test

import (
	"fmt"
	"math/rand"
	"testing"

	"keelson/api"
)

// script is a course of random events.
type script struct {
	*course
	rand   *rand.Rand
	cuts   int  // one in so many things ends in a cut; 0: none does
	turns  bool // whether bits turn, of no page more than one between two passes
	often  int  // one in so many things is a failure; 0: there are no more than two of each chip
	risk   int  // one in so many times the last chip that has all may go; 0: it never does
	failed [2]int
}

// newScript gives a world in the beginning of a script.
func newScript(t *testing.T, what string, seed int64) *script {
	t.Helper()
	r := rand.New(rand.NewSource(seed))
	blocks := 16 + r.Intn(3)
	if r.Intn(10) == 0 {
		blocks = 16 + r.Intn(25)
	}
	return &script{course: begun(t, fmt.Sprint(what, ", seed ", seed), blocks), rand: r}
}

// step lets some things happen.
func (x *script) step() {
	x.t.Helper()
	chip, r := x.rand.Intn(2), x.rand
	if x.tree == nil && r.Intn(3) > 0 {
		x.opens()
		return
	}
	if x.cuts > 0 && r.Intn(x.cuts) == 0 {
		x.ok(api.EvCut, 0, r.Intn(1+r.Intn(30)), x.keep())
		if r.Intn(2) == 0 {
			x.asks(op(api.OpSync))
		}
	}
	if x.often > 0 && r.Intn(x.often) == 0 {
		x.ok(api.EvFail, chip, r.Intn(1+r.Intn(9)), r.Intn(4)/3)
	}
	switch n := r.Intn(40); {
	case n == 0:
		x.opens()
	case n < 6:
		x.befalls(chip)
	case n < 10:
		x.resyncs()
	case n < 12:
		x.scrubsSome()
	case n < 17:
		x.asks(op(api.OpSync))
	case n == 17:
		x.back()
	case n == 18 && x.turns:
		x.turn(chip)
	case n == 19 && x.failed[chip] < 2:
		x.failed[chip]++
		x.ok(api.EvFail, chip, r.Intn(12), r.Intn(2))
	default:
		x.some()
	}
}

// keep gives how much of an act may be kept.
func (x *script) keep() int { return keeps[x.rand.Intn(len(keeps))] }

// some does an operation that isn't OpSync.
func (x *script) some() {
	x.t.Helper()
	if x.tree == nil {
		x.asks(api.Op{Kind: x.rand.Intn(15), Path: "/"})
		return
	}
	x.asks(x.tree.Some(x.rand.Intn))
}

// opens does an EvMount, in which the power may go.
func (x *script) opens() {
	x.t.Helper()
	n := 0
	if x.cuts > 0 && x.rand.Intn(3) == 0 {
		n = 1 + x.rand.Intn(1+x.rand.Intn(20))
	}
	x.code(api.EvMount, 0, n, x.keep())
}

// mayGo tells whether a chip may go.
func (x *script) mayGo(chip int) bool {
	return x.has(1-chip) || x.risk > 0 && x.rand.Intn(x.risk) == 0
}

// befalls lets a chip be taken out, put in, die, or be replaced.
func (x *script) befalls(chip int) {
	x.t.Helper()
	switch n := x.rand.Intn(14); {
	case n < 4:
		if x.mayGo(chip) {
			x.ok(api.EvOut, chip, 0, 0)
		}
	case n < 10:
		x.ok(api.EvIn, chip, 0, 0)
	case n < 11:
		if x.mayGo(chip) {
			x.ok(api.EvDie, chip, 0, 0)
		}
	case x.chips[chip].dead || x.rand.Intn(4) == 0:
		if x.mayGo(chip) {
			x.replaces(chip)
		}
	}
}

// replaces puts a blank chip in a chip's place.
func (x *script) replaces(chip int) {
	x.t.Helper()
	x.ok(api.EvNew, chip, 0, 0)
	x.failed[chip] = 0
}

// resyncs does some EvResyncs, with operations between them.
func (x *script) resyncs() {
	x.t.Helper()
	for range 1 + x.rand.Intn(1+x.rand.Intn(1+x.w.Steps())) {
		x.code(api.EvResync, 0, 0, 0)
		if x.rand.Intn(8) == 0 {
			x.some()
		}
	}
}

// scrubsSome does some EvScrubs, with operations between them.
func (x *script) scrubsSome() {
	x.t.Helper()
	n := x.rand.Intn(20)
	if x.rand.Intn(2) == 0 {
		n = pass - x.looked
	}
	for range n {
		x.code(api.EvScrub, 0, 0, 0)
		if x.rand.Intn(40) == 0 {
			x.some()
		}
	}
}

// turn turns bits of a chip, of no page a second one.
func (x *script) turn(chip int) {
	x.t.Helper()
	for range x.rand.Intn(40) {
		n := x.rand.Intn(x.blocks * api.BlockPages)
		if !x.chips[chip].turned[n] {
			x.ok(api.EvFlip, chip, n, x.bit())
		}
	}
}

// bit gives a bit of a page.
func (x *script) bit() int {
	return []int{x.rand.Intn(2064), x.rand.Intn(100), 2063 - x.rand.Intn(16)}[x.rand.Intn(3)]
}

// back lets both chips live, and does as many EvResyncs as there are Steps: then both are members, and either one alone has the same tree.
func (x *script) back() {
	x.t.Helper()
	if x.tree == nil || !x.has(0) && !x.has(1) {
		return
	}
	for chip := range x.chips {
		if x.chips[chip].dead {
			x.replaces(chip)
		}
		x.ok(api.EvIn, chip, 0, 0)
	}
	if x.cuts > 0 {
		x.ok(api.EvCut, 0, -1, 0)
	}
	if x.often > 0 {
		// Such chips may have no spares, and more failures are to come.
		return
	}
	x.comesBack()
	x.met["back"]++
	for range x.rand.Intn(3) {
		x.without(x.rand.Intn(2))
	}
}

// runs does so many scripts, each from its seed on, as they are made to be, and gives what they met.
func runs(t *testing.T, what string, scripts int, be func(x *script)) map[string]int {
	t.Helper()
	met := map[string]int{}
	for seed := range int64(scripts) {
		x := newScript(t, what, seed)
		be(x)
		for range 200 {
			x.step()
		}
		x.adds(met)
	}
	return met
}

// wants tells of what wasn't met often enough.
func wants(t *testing.T, met map[string]int, list ...string) {
	t.Helper()
	for _, s := range list {
		if met[s] < 20 {
			t.Errorf("met too seldom: %s; in all: %v", s, met)
		}
	}
}

// P24.4, P24.7: as long as a member lives that has all all answers are those of a tree in memory, and steps are OK.
func TestAnswers(t *testing.T) {
	t.Parallel()
	met := runs(t, "answers", 150, func(*script) {})
	wants(t, met, "mount errno 0", "an OpSync", "back")
}

// P24.5, P24.7: and with cuts wherever, and a turned bit a page, each EvMount gives what was kept, or mounted, last, or what is behind the OpSync in which the power went.
func TestCrashes(t *testing.T) {
	t.Parallel()
	met := runs(t, "crashes", 200, func(x *script) {
		x.cuts, x.turns = 3+x.rand.Intn(9), x.rand.Intn(4) > 0
	})
	wants(t, met, "mount errno 0", "mount errno 30", "an OpSync", "a cut OpSync", "ahead of a cut", "behind a cut", "back")
}

// P24.6: whatever becomes of the chips, what is mounted is never stale; where it would be nothing is written.
func TestNeverStale(t *testing.T) {
	t.Parallel()
	met := runs(t, "never stale", 300, func(x *script) {
		x.wears, x.risk = true, 1+x.rand.Intn(12)
		if x.rand.Intn(3) > 0 {
			x.cuts = 3 + x.rand.Intn(9)
		}
		if x.rand.Intn(2) > 0 {
			x.often = 1 + x.rand.Intn(5)
		}
	})
	wants(t, met, "mount errno 0", "mount errno 30", "mount errno 50", "mount errno 51", "an OpSync", "a cut OpSync", "a worn OpSync", "ahead of a cut", "behind a cut")
}
