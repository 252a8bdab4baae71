package mirror_test

import (
	"fmt"
	"slices"
	"testing"

	"keelson/api"
	"keelson/mirror"
	"keelson/nand"
	"keelson/store"
	"keelson/view"
)

// first is the view that Make gives.
func first() api.View { return api.View{Number: 1, Members: 3, Base: 1} }

// P14.1: Make gives a mirror without nodes, of the epoch 1, with both chips.
func TestMake(t *testing.T) {
	for _, blocks := range [][2]int{{16, 16}, {18, 16}, {16, 40}} {
		x := blank(t, fmt.Sprint(blocks), blocks[0], blocks[1], []int{3}, []int{2, 9})
		x.make()
		x.is(1, nodes{})
		x.views(1, 3, 1)
		lead, ok := x.m.Lead()
		if lead != 0 || !ok || x.m.Off() || x.m.Live() != (api.Live{}) {
			t.Errorf("%s: the lead is %d, %v", x.what, lead, ok)
		}
		for chip := range 2 {
			x.noted(chip)
			if !x.m.Member(chip) || !x.m.Up(chip) || x.store(chip).Epoch() != 1 {
				t.Errorf("%s: the chip %d", x.what, chip)
			}
		}
	}
}

// P14.1: Make of chips that have held other nodes.
func TestMakeAgain(t *testing.T) {
	x := made(t, "used")
	x.commits(change(1, "a"), change(2, "b"))
	x.commits(gone(1))
	x.fences(1, change(3, "c"))
	x.tie = view.NewTie()
	x.make()
	x.is(1, nodes{})
	x.views(1, 3, 1)
	x.noted(0)
	x.noted(1)
}

// makes does a Make that fails.
func (x *scene) makes(what string, e api.Errno) {
	x.t.Helper()
	before := x.tie.Get()
	m, got := mirror.Make(x.tie, x.chips[0], x.chips[1])
	want(x.t, what, got, e)
	if m != nil || x.tie.Get() != before {
		x.t.Errorf("%s: a mirror is given, or the tie knows another view", what)
	}
}

// P14.1: ErrBusy is ahead of all else, and nothing is done then.
func TestMakeBusy(t *testing.T) {
	x := blank(t, "busy", 16, 16, []int{0}, []int{1})
	want(t, "Set", x.tie.Set(api.View{Number: 1, Members: 2}), api.OK)
	x.makes("the tie knows a view", api.ErrBusy)
	x.chips[0].Die()
	x.makes("and a chip is dead", api.ErrBusy)
	x.off()
	x.makes("and there is no power", api.ErrBusy)
	if x.acts() != 0 {
		t.Error("an act was done")
	}
}

// P14.1: the errors of Format, of the chip 0 ahead of the chip 1.
func TestMakeErrors(t *testing.T) {
	for i, c := range []struct {
		bad  [2][]int
		dead [2]bool
		off  bool
		want api.Errno
	}{
		{[2][]int{nil, nil}, [2]bool{true, true}, true, api.ErrDown},
		{[2][]int{{0}, {1}}, [2]bool{false, false}, true, api.ErrDown},
		{[2][]int{nil, {1}}, [2]bool{true, false}, false, api.ErrDead},
		{[2][]int{nil, nil}, [2]bool{false, true}, false, api.ErrDead},
		{[2][]int{{0}, nil}, [2]bool{false, true}, false, api.ErrWorn},
		{[2][]int{nil, {2, 3, 4, 5, 6}}, [2]bool{false, false}, false, api.ErrWorn},
	} {
		x := blank(t, fmt.Sprint(i), 16, 16, c.bad[:]...)
		for chip, dead := range c.dead {
			x.chips[chip].Put(!dead)
		}
		if c.off {
			x.off()
		}
		x.makes(x.what, c.want)
	}
}

// lone gives how many acts of one chip each of Make's parts are: the Format, the Commit, the Note.
func lone(t *testing.T) []int {
	t.Helper()
	c, _ := nand.New(nand.NewPower(), 16)
	s, e := store.Format(c)
	want(t, "Format", e, api.OK)
	list := []int{c.Count()}
	want(t, "Commit", s.Commit(1), api.OK)
	list = append(list, c.Count()-list[0])
	want(t, "Note", s.Note(first()), api.OK)
	return append(list, c.Count()-list[0]-list[1])
}

// P14.1: both Formats, both Commits, both Notes, the chip 0 ahead; wherever the power goes, it is ErrDown, and the tie knows none; Make can be done again.
func TestMakeOrder(t *testing.T) {
	var order []int
	for _, acts := range lone(t) {
		order = append(order, slices.Repeat([]int{0}, acts)...)
		order = append(order, slices.Repeat([]int{1}, acts)...)
	}
	for _, keep := range fewKeeps {
		for after, chip := range order {
			x := blank(t, fmt.Sprintf("Cut(%d, %d)", after, keep), 16, 16)
			x.p.Cut(after, keep)
			x.makes(x.what, api.ErrDown)
			acts := [2]int{}
			for _, chip := range order[:after+1] {
				acts[chip]++
			}
			if is := [2]int{x.chips[0].Count(), x.chips[1].Count()}; is != acts {
				t.Errorf("%s: in an act of the chip %d: %d acts, not %d", x.what, chip, is, acts)
			}
			x.p.On()
			x.refuses("Open", api.ErrNoReplica)
			x.make()
			x.is(1, nodes{})
		}
	}
	x := made(t, "to the end")
	if x.acts() != len(order) {
		t.Errorf("%d acts, not %d", x.acts(), len(order))
	}
}

// formatErases is how many of a Format's acts are no programs: of a chip of 16 blocks, that is blank.
const formatErases = 2 + 10

// P14.1: the errors of the Commit, and of the Note, of each chip.
func TestMakeWorn(t *testing.T) {
	parts := lone(t)
	for chip := range 2 {
		for _, acts := range []int{parts[0], parts[0] + parts[1]} {
			bad := [][]int{nil, nil}
			bad[chip] = noSpares
			x := blank(t, fmt.Sprintf("the chip %d, %d acts", chip, acts), 16, 16, bad...)
			x.chips[chip].Fail(true, acts-formatErases)
			x.makes(x.what, api.ErrWorn)
			if x.chips[0].Count() < parts[0] || x.chips[1].Count() < parts[0] {
				t.Errorf("%s: a Format was left out", x.what)
			}
		}
	}
}

// P14.8: the tie and the chips are kept, and used on.
func TestMakeKeeps(t *testing.T) {
	x := made(t, "kept")
	want(t, "Set", x.tie.Set(api.View{Number: 9, Members: 2, Base: 4}), api.OK)
	if x.m.Member(0) || !x.m.Member(1) || x.m.View() != x.tie.Get() {
		t.Errorf("the view is %v", x.m.View())
	}
	x.chips[1].Put(false)
	if _, ok := x.m.Lead(); ok || x.m.Up(1) || x.m.Lives(1) {
		t.Error("the chip 1 is up")
	}
}
