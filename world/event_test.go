package world_test

import (
	"fmt"
	"math"
	"testing"

	"keelson/api"
	"keelson/nand"
)

// page gives a page of a chip as it stands.
func (x *course) page(chip, n int) api.Page {
	x.t.Helper()
	p, e := x.w.Chip(chip).Read(n/api.BlockPages, n%api.BlockPages)
	if e != api.OK {
		x.fatal("Read:", e)
	}
	return p
}

// image gives all pages of a chip.
func (x *course) image(chip int) []api.Page {
	x.t.Helper()
	var all []api.Page
	for n := range x.blocks * api.BlockPages {
		all = append(all, x.page(chip, n))
	}
	return all
}

// P24.2: what is no Kind is ErrStep, mounted or not, whatever else is in it, and changes nothing.
func TestNoKind(t *testing.T) {
	x := begun(t, "no kind", 16)
	x.grows()
	for range 2 {
		acts, view, mounted := x.acts(), x.w.View(), x.w.Mounted()
		for _, kind := range append([]int{api.EvScrub + 1, 13, -3}, odd...) {
			if kind >= api.EvOp && kind <= api.EvScrub {
				continue
			}
			for _, n := range []int{0, 1, -1, 500} {
				e := api.Event{Kind: kind, Chip: n % 2, N: n, Keep: n, Op: op(api.OpMkdir, "/x")}
				if a := x.does(e); a.Code != api.ErrStep {
					t.Errorf("%v: %v", e, a)
				}
			}
		}
		if x.acts() != acts || x.w.View() != view || x.w.Mounted() != mounted {
			t.Error("something was done")
		}
		if mounted {
			x.walks()
		}
		x.ok(api.EvOut, 0, 0, 0)
		x.ok(api.EvOut, 1, 0, 0)
		x.code(api.EvMount, 0, 0, 0)
	}
}

// P24.2: where nothing is mounted an operation, and a step, is ErrStep.
func TestNotMounted(t *testing.T) {
	x := begun(t, "not mounted", 16)
	x.grows()
	x.oks(op(api.OpMkdir, "/x"))
	x.ok(api.EvCut, 0, 0, 0)
	for _, o := range []api.Op{op(api.OpSync), op(api.OpSync), op(api.OpStat, "/"), op(api.OpList, "none"), {}, {Kind: api.OpClose, H: 1}, {Kind: 99}} {
		x.asks(o)
	}
	for _, kind := range []int{api.EvResync, api.EvScrub} {
		if e := x.code(kind, 1, 1, 1); e != api.ErrStep {
			t.Errorf("%d: %v", kind, e)
		}
	}
	if x.met["a cut OpSync"] != 1 {
		t.Error(x.met)
	}
	x.mounts()
	x.walks()
}

// P24.2: an event of a chip that is none is ErrStep, ahead of all else that is wrong with it.
func TestNoChip(t *testing.T) {
	x := begun(t, "no chip", 16)
	x.grows()
	was := [2][]api.Page{x.image(0), x.image(1)}
	for _, chip := range append([]int{2, 3, -1}, odd...) {
		if chip == 0 || chip == 1 {
			continue
		}
		for _, kind := range []int{api.EvFail, api.EvFlip, api.EvDie, api.EvOut, api.EvIn, api.EvNew} {
			for _, n := range []int{0, 5, -1, math.MaxInt} {
				if e := x.code(kind, chip, n, 0); e != api.ErrStep {
					t.Errorf("%d of the chip %d: %v", kind, chip, e)
				}
			}
		}
	}
	for chip, pages := range was {
		if !x.w.Chip(chip).Live() || fmt.Sprint(x.image(chip)) != fmt.Sprint(pages) {
			t.Errorf("something has become of the chip %d", chip)
		}
	}
	x.walks()
	x.syncs()
}

// P24.2: the Chip plays no part where none is meant.
func TestAnyChip(t *testing.T) {
	x := begun(t, "any chip", 16)
	for _, chip := range odd {
		x.oks(op(api.OpMkdir, "/x"))
		x.does(api.Event{Kind: api.EvOp, Chip: chip, N: chip, Keep: chip, Op: op(api.OpSync)})
		x.ok(api.EvResync, chip, chip, chip)
		x.ok(api.EvScrub, chip, chip, chip)
		x.ok(api.EvCut, chip, -1, 0)
		x.ok(api.EvMount, chip, 0, chip)
		x.does(api.Event{Kind: api.EvOp, Chip: chip, Op: op(api.OpRmdir, "/x")})
	}
	if x.met["an OpSync"] != len(odd) {
		t.Error(x.met)
	}
}

// P24.2: EvCut is the power's: it ends in just that act of both chips together, of which so much is kept; a later one holds in place of an earlier one.
func TestCut(t *testing.T) {
	for after := range 12 {
		for _, keep := range keeps {
			x := begun(t, fmt.Sprintf("Cut(%d, %d)", after, keep), 16)
			x.grows()
			x.makes("/more", []byte("more"))
			x.ok(api.EvCut, 0, 0, 1)
			x.ok(api.EvCut, 0, after, keep)
			acts := x.acts()
			if a := x.asks(op(api.OpSync)); a.Code == api.ErrDown && x.acts() != acts+after+1 {
				t.Errorf("%s: %d acts", x.what, x.acts()-acts)
			} else if a.Code == api.OK && x.acts() > acts+after {
				t.Errorf("%s: OK behind %d acts", x.what, x.acts()-acts)
			}
			x.mounts()
		}
	}
	for _, after := range []int{-1, math.MinInt, math.MaxInt} {
		x := begun(t, fmt.Sprintf("Cut(%d)", after), 16)
		x.ok(api.EvCut, 0, 0, 0)
		x.ok(api.EvCut, 0, after, 0)
		x.grows()
	}
}

// P24.2: of the act in which the power ends so much is kept as Keep says.
func TestCutKeep(t *testing.T) {
	for _, mount := range []bool{false, true} {
		for _, keep := range keeps {
			x := begun(t, fmt.Sprintf("Keep %d, EvMount: %v", keep, mount), 16)
			x.grows()
			was := x.image(0)
			kind, n := api.EvCut, 0
			if mount {
				kind, n = api.EvMount, 1
			}
			x.ok(kind, 0, n, keep)
			x.oks(op(api.OpMkdir, "/more"))
			x.asks(op(api.OpSync))
			x.w.On()
			written := 0
			for n, p := range x.image(0) {
				for i := range p {
					if p[i] != was[n][i] {
						written = max(written, i+1)
					}
				}
			}
			// The last byte that isn't all ones may be a few ahead of the end.
			if most := min(max(keep, 0), api.PageSize); written > most || written < most-2 {
				t.Errorf("%s: %d bytes", x.what, written)
			}
		}
	}
}

// P24.2: behind EvMount the power lasts, or it is Cut with N - 1 and Keep, whatever was Cut ahead.
func TestMountCut(t *testing.T) {
	for _, n := range []int{1, 2, 3, 4, 0, -1, math.MinInt, math.MaxInt} {
		x := begun(t, fmt.Sprint("EvMount ", n), 16)
		x.grows()
		x.ok(api.EvCut, 0, 1, 258)
		x.ok(api.EvMount, 0, n, 130)
		x.oks(op(api.OpMkdir, "/x"))
		acts := x.acts()
		a := x.asks(op(api.OpSync))
		if lasts := n < 1 || n > 4; lasts != (a.Code == api.OK) || !lasts && x.acts() != acts+n {
			t.Errorf("%s: %v behind %d acts", x.what, a.Code, x.acts()-acts)
		}
		x.ok(api.EvMount, 0, 0, 0)
		x.makes("/y", []byte("y"))
		x.syncs()
	}
}

// P24.2: the power may go in the mount itself: nothing is mounted then.
func TestMountDown(t *testing.T) {
	for _, keep := range keeps {
		x := begun(t, fmt.Sprint("in the mount, Keep ", keep), 16)
		x.grows()
		x.ok(api.EvOut, 1, 0, 0)
		acts := x.acts()
		if e := x.code(api.EvMount, 0, 1, keep); e != api.ErrDown || x.w.Mounted() || !x.w.Off() || x.acts() != acts+1 {
			t.Errorf("%s: %v, %d acts", x.what, e, x.acts()-acts)
		}
		x.mounts()
		x.walks()
		if x.w.View().Number != 2 || x.w.View().Members != 1 {
			t.Errorf("%s: %v", x.what, x.w.View())
		}
	}
}

// P24.2: EvMount answers what Open, and what Mount answers; what was mounted isn't any more.
func TestMountErrors(t *testing.T) {
	x := begun(t, "errors", 16)
	x.grows()
	x.ok(api.EvOut, 0, 0, 0)
	x.syncs()
	x.oks(op(api.OpMkdir, "/more"), op(api.OpSync))
	x.ok(api.EvIn, 0, 0, 0)
	x.ok(api.EvOut, 1, 0, 0)
	if e := x.code(api.EvMount, 0, 0, 0); e != api.ErrStale {
		t.Error(e)
	}
	x.ok(api.EvOut, 0, 0, 0)
	if e := x.code(api.EvMount, 0, 0, 0); e != api.ErrNoReplica {
		t.Error(e)
	}
	x.ok(api.EvIn, 1, 0, 0)
	x.mounts()
	x.walks()

	x = begun(t, "the top can't be read", 16)
	x.ruins = true
	x.grows()
	x.ruin(0)
	x.ruin(1)
	if e := x.w.Do(api.Event{Kind: api.EvMount}).Code; e != api.ErrNoReplica && e != api.ErrCorrupt || x.w.Mounted() {
		t.Error(e)
	}
}

// ruin turns two bits of each page of a chip.
func (x *course) ruin(chip int) {
	x.t.Helper()
	for n := range x.blocks * api.BlockPages {
		x.ok(api.EvFlip, chip, n, 20)
		x.ok(api.EvFlip, chip, n, 77+n)
	}
}

// P24.2: what was done since the last OpSync, and the handles, are gone with EvMount.
func TestMountAnew(t *testing.T) {
	x := begun(t, "anew", 16)
	x.grows()
	x.oks(op(api.OpOpen, "/f"), op(api.OpMkdir, "/more"))
	x.mounts()
	for _, o := range []api.Op{{Kind: api.OpClose, H: 1}, op(api.OpRmdir, "/more"), op(api.OpUnlink, "/f")} {
		x.asks(o)
	}
	x.walks()
}

// P24.2: EvMount writes nothing, and erases nothing, where there is neither a fence nor a note; each of these is one act.
func TestMountActs(t *testing.T) {
	x := begun(t, "acts", 16)
	x.grows()
	mounts := func(want int) {
		t.Helper()
		acts := x.acts()
		x.mounts()
		if x.acts() != acts+want {
			t.Errorf("%s: %d acts, not %d", x.what, x.acts()-acts, want)
		}
	}
	mounts(0)
	x.oks(op(api.OpMkdir, "/x"))
	mounts(0)
	x.ok(api.EvOut, 1, 0, 0)
	mounts(1)
	mounts(0)
	x.ok(api.EvIn, 1, 0, 0)
	mounts(0)
	x.comesBack()
	mounts(0)
	x.ok(api.EvNew, 0, 0, 0)
	mounts(1)
	mounts(0)
	x.comesBack()
	mounts(0)
	x.ok(api.EvOut, 0, 0, 0)
	x.code(api.EvMount, 0, 1, 0)
	mounts(1)
	mounts(0)
}

// tries tells which of the next acts of a chip fail, of programs or of erases, in a block that nobody uses.
func tries(c *nand.Chip, programs bool) (failed []int) {
	block := c.Blocks() - 1
	c.Erase(block)
	for i := range api.BlockPages {
		e := api.OK
		if programs {
			e = c.Program(block, i, api.Page{})
		} else {
			e = c.Erase(block)
		}
		if e == api.ErrFailed {
			failed = append(failed, i)
		}
	}
	return failed
}

// P24.2: EvFail is the chip's Fail of the number N, of programs if Keep is 0, else of erases, and no other's.
func TestFail(t *testing.T) {
	for chip := range 2 {
		for _, n := range []int{0, 1, 5, 7, 8, -1, math.MaxInt, math.MinInt} {
			for _, keep := range []int{0, 1, -1, 258} {
				x := begun(t, fmt.Sprintf("the chip %d, %d, %d", chip, n, keep), 16)
				x.ok(api.EvFail, chip, 3, keep)
				x.ok(api.EvFail, chip, n, keep)
				if got := tries(x.w.Chip(1-chip), keep == 0); got != nil {
					t.Errorf("%s: of the other chip %v", x.what, got)
				}
				if got := tries(x.w.Chip(chip), keep != 0); got != nil {
					t.Errorf("%s: of the other kind %v", x.what, got)
				}
				x.ok(api.EvFail, chip, n, keep)
				want := "[]"
				if keep != 0 && n >= 1 && n <= 8 {
					want = fmt.Sprint([]int{n - 1}) // one Erase is ahead
				} else if keep == 0 && n >= 0 && n < 8 {
					want = fmt.Sprint([]int{n})
				}
				if got := fmt.Sprint(tries(x.w.Chip(chip), keep == 0)); got != want {
					t.Errorf("%s: %s, not %s", x.what, got, want)
				}
			}
		}
	}
}

// P24.2: EvFlip turns just that bit of that page, counted through all blocks, of that chip, also without power.
func TestFlip(t *testing.T) {
	for chip := range 2 {
		for _, off := range []bool{false, true} {
			x := begun(t, fmt.Sprintf("the chip %d, off: %v", chip, off), 18)
			x.grows()
			was, other := x.image(chip), fmt.Sprint(x.image(1-chip))
			for i, at := range [][2]int{{0, 0}, {0, 2063}, {7, 1}, {8, 9}, {77, 2048}, {143, 2063}, {77, 2047}, {17, 1000}} {
				if off {
					x.oks(op(api.OpMkdir, fmt.Sprint("/", i)))
					x.ok(api.EvCut, 0, 0, -1)
					x.asks(op(api.OpSync))
				}
				x.ok(api.EvFlip, chip, at[0], at[1])
				if off != x.w.Off() {
					t.Errorf("%s: Off: %v", x.what, x.w.Off())
				}
				was[at[0]][at[1]/8] ^= 1 << (at[1] % 8)
				x.w.On()
				if fmt.Sprint(x.image(chip)) != fmt.Sprint(was) || fmt.Sprint(x.image(1-chip)) != other {
					t.Errorf("%s: %v", x.what, at)
				}
				if off {
					x.mounts()
				}
			}
		}
	}
}

// P24.2: what there is no bit of is ErrArg, and turns nothing.
func TestFlipNothing(t *testing.T) {
	x := begun(t, "nothing", 18)
	x.grows()
	was := fmt.Sprint(x.image(0), x.image(1))
	for _, n := range append([]int{144, 145, -1, -7, -8, -9, -144, 1 << 40}, odd...) {
		for _, bit := range append([]int{2064, -1, -8}, odd...) {
			if n >= 0 && n < 144 && bit >= 0 && bit < 2064 {
				continue
			}
			for chip := range 2 {
				if e := x.code(api.EvFlip, chip, n, bit); e != api.ErrArg {
					t.Errorf("%d, %d: %v", n, bit, e)
				}
			}
		}
	}
	if fmt.Sprint(x.image(0), x.image(1)) != was {
		t.Error("something has turned")
	}
}

// P24.2: EvDie, EvOut, EvIn: whether the chip lives, and no other.
func TestDieOutIn(t *testing.T) {
	for chip := range 2 {
		x := begun(t, fmt.Sprint("the chip ", chip), 16)
		c, other := x.w.Chip(chip), x.w.Chip(1-chip)
		for _, s := range []struct {
			kind int
			live bool
		}{{api.EvIn, true}, {api.EvOut, false}, {api.EvOut, false}, {api.EvIn, true}, {api.EvOut, false}, {api.EvDie, false}, {api.EvIn, false}, {api.EvOut, false}, {api.EvIn, false}} {
			x.ok(s.kind, chip, 0, 0)
			if c.Live() != s.live || !other.Live() {
				t.Errorf("%s: behind %d it lives: %v, the other one: %v", x.what, s.kind, c.Live(), other.Live())
			}
		}
		x.grows()
		if x.w.View().Members != 2-chip {
			t.Errorf("%s: %v", x.what, x.w.View())
		}
	}
}

// P24.2: EvNew is a blank chip of as many blocks, in the place of whatever was there, also in the mirror's eyes.
func TestNewChip(t *testing.T) {
	for chip := range 2 {
		for _, blocks := range []int{16, 23} {
			x := begun(t, fmt.Sprintf("the chip %d of %d blocks", chip, blocks), blocks)
			x.grows()
			x.ok(api.EvOut, chip, 0, 0)
			x.ok(api.EvNew, chip, 0, 0)
			c := x.w.Chip(chip)
			if c.Blocks() != blocks || !c.Live() || c.Count() != 0 || x.w.Count(chip) != 0 || c.Power != x.w.Power || x.w.Count(1-chip) == 0 {
				t.Errorf("%s: %d blocks, %v, %d", x.what, c.Blocks(), c.Live(), c.Count())
			}
			x.blank(chip)
			x.walks()
			if x.w.View().Members != 3 {
				t.Errorf("%s: %v", x.what, x.w.View())
			}
			x.oks(op(api.OpMkdir, "/new"), op(api.OpSync))
			if x.w.View().Members != 2-chip || x.w.Count(chip) != 0 {
				t.Errorf("%s: %v, %d acts", x.what, x.w.View(), x.w.Count(chip))
			}
			x.comesBack()
			x.without(1 - chip)
		}
	}
}

// blank tells unless a chip is blank.
func (x *course) blank(chip int) {
	x.t.Helper()
	for n, p := range x.image(chip) {
		for _, b := range p {
			if b != 255 {
				x.fatal("the page", n, "isn't blank")
			}
		}
	}
}

// P24.2: EvNew where nothing is mounted, and without power.
func TestNewChipNotMounted(t *testing.T) {
	for chip := range 2 {
		x := begun(t, fmt.Sprint("the chip ", chip), 16)
		x.grows()
		x.oks(op(api.OpMkdir, "/x"))
		x.ok(api.EvCut, 0, 0, 0)
		x.asks(op(api.OpSync))
		x.ok(api.EvNew, chip, 0, 0)
		if !x.w.Off() || x.w.Mounted() || x.w.Count(chip) != 0 {
			t.Errorf("%s: %v, %v", x.what, x.w.Off(), x.w.Mounted())
		}
		x.mounts()
		x.walks()
		x.comesBack()
		x.without(1 - chip)
		x.ok(api.EvNew, 0, 0, 0)
		x.ok(api.EvNew, 1, 0, 0)
		if a := x.asks(op(api.OpStat, "/")); a.Code != api.ErrDead {
			t.Errorf("two blank chips: %v", a)
		}
		if e := x.code(api.EvMount, 0, 0, 0); e != api.ErrNoReplica {
			t.Errorf("two blank chips: %v", e)
		}
	}
}

// P24.2: EvResync and EvScrub are steps; EvMount begins both anew.
func TestSteps(t *testing.T) {
	x := begun(t, "steps", 16)
	x.grows()
	x.ok(api.EvOut, 1, 0, 0)
	x.oks(op(api.OpMkdir, "/x"), op(api.OpSync))
	x.ok(api.EvIn, 1, 0, 0)
	// It begins, stages the top and /x, finishes, and joins.
	for range 4 {
		x.ok(api.EvResync, 0, 0, 0)
	}
	if x.w.View().Members != 1 {
		t.Fatal(x.w.View())
	}
	x.ok(api.EvResync, 0, 0, 0)
	if x.w.View().Members != 3 {
		t.Fatal(x.w.View())
	}
	// A bit of the table is mended behind the key 255 alone; it stands in the block 0, or in the block 1.
	for _, ahead := range []int{0, 100, 256} {
		x.ok(api.EvFlip, 0, 0, 5)
		x.ok(api.EvFlip, 0, api.BlockPages, 5)
		for range ahead {
			x.ok(api.EvScrub, 0, 0, 0)
		}
		x.mounts()
		for n := range 2*pass - 1 {
			acts := x.acts()
			x.ok(api.EvScrub, 0, 0, 0)
			if done := x.acts() > acts; done != (n == pass-1) {
				t.Fatalf("behind %d steps, and EvMount: the step %d: %d acts", ahead, n, x.acts()-acts)
			}
		}
		x.ok(api.EvScrub, 0, 0, 0)
	}
}

// P24.2: a resync that had begun ahead of EvMount begins anew behind it, and comes to its end.
func TestResyncAnew(t *testing.T) {
	for ahead := range 12 {
		x := begun(t, fmt.Sprint("EvMount behind ", ahead), 16)
		x.grows()
		x.ok(api.EvNew, 1, 0, 0)
		for range ahead {
			x.ok(api.EvResync, 0, 0, 0)
		}
		x.mounts()
		x.comesBack()
		x.without(0)
	}
}
