package mirror_test

import (
	"fmt"
	"testing"

	"keelson/api"
	"keelson/mirror"
	"keelson/nand"
	"keelson/store"
)

// unequal gives a mirror in whose last Commit the power went, between the two chips: the chip 0 has the epoch 3, the chip 1 the epoch 2.
func unequal(t *testing.T, what string, bad ...[]int) *scene {
	t.Helper()
	changes := []api.Change{change(1, "c"), gone(2), change(3, "d")}
	set := func() *scene {
		x := made(t, what, bad...)
		x.commits(change(1, "a"), change(2, "b"))
		return x
	}
	twin := set()
	before := twin.chips[0].Count()
	twin.commits(changes...)
	x := set()
	x.p.Cut(twin.chips[0].Count()-before, 0)
	want(t, what, x.m.Commit(changes...), api.ErrDown)
	x.p.On()
	if x.m.Seen(0).Last.Epoch != 3 || x.m.Seen(1).Seen != 2 {
		t.Fatalf("%s: %v, %v", what, x.m.Seen(0), x.m.Seen(1))
	}
	return x
}

// P14.1: Open of what was closed well: nothing is written, whoever leads.
func TestOpen(t *testing.T) {
	x := made(t, "both")
	x.commits(change(1, "a"), change(255, ""), change(0, "c"))
	x.commits(gone(1))
	all := nodes{255: "", 0: "c"}
	for range 3 {
		acts := x.acts()
		x.open()
		x.is(3, all)
		x.views(1, 3, 1)
		if x.acts() != acts {
			t.Error("something was written")
		}
	}
	x.fences(1, change(2, "d"))
	acts := x.acts()
	x.open()
	x.is(4, nodes{255: "", 0: "c", 2: "d"})
	x.views(2, 1, 3)
	if x.acts() != acts || !x.m.Up(1) || x.m.Member(1) {
		t.Error("something was written, or the chip 1 isn't up, or a member")
	}
	x.chips[1].Put(false)
	x.open()
	if x.acts() != acts || x.m.Up(1) {
		t.Error("something was written, or the chip 1 is up")
	}
}

// P14.1: the errors ahead of any act: ErrDown, then those of Choose.
func TestOpenErrors(t *testing.T) {
	x := blank(t, "blank", 16, 16)
	x.refuses("the tie knows none", api.ErrNoReplica)
	x.off()
	x.refuses("no power", api.ErrDown)
	x.p.On()
	x.make()
	x.commits(change(1, "a"))
	x.chips[0].Put(false)
	x.chips[1].Put(false)
	x.refuses("no chip", api.ErrNoReplica)
	x.off()
	x.refuses("no power, no chip", api.ErrDown)
	x.p.On()
	x.chips[0].Put(true)
	x.chips[1].Put(true)
	x.fences(1, change(2, "b"))
	x.chips[0].Put(false)
	x.refuses("the chip 1 alone", api.ErrStale)
	blank, _ := nand.New(x.p, 16)
	x.chips[0] = blank
	x.refuses("the chip 1 with a blank one", api.ErrStale)
	x.chips[1] = blank
	x.refuses("a blank one, twice", api.ErrNoReplica)
	if blank.Count() != 0 {
		t.Error("an act was done")
	}
}

// P14.1: chips that are behind the view's Base, or not Sound.
func TestOpenStaleOrCorrupt(t *testing.T) {
	x := made(t, "behind")
	x.commits(change(1, "a"))
	want(t, "Set", x.tie.Set(api.View{Number: 2, Members: 3, Base: 3}), api.OK)
	x.refuses("both are behind", api.ErrStale)
	x = made(t, "hurt")
	x.commits(change(1, "a"), change(2, "b"))
	x.spoil(0, 1, 2)
	x.spoil(1, 2, 2)
	x.refuses("neither is Sound", api.ErrCorrupt)
	x.chips[0].Put(false)
	x.refuses("the one that is there isn't Sound", api.ErrCorrupt)
}

// P14.1: the chip with the greatest epoch goes on alone, with a fence; the view is noted there.
func TestOpenFence(t *testing.T) {
	x := unequal(t, "unequal")
	x.open()
	x.is(3, nodes{1: "c", 3: "d"})
	x.views(2, 1, 3)
	x.noted(0)
	if lead, ok := x.m.Lead(); lead != 0 || !ok || x.m.Member(1) || !x.m.Up(1) {
		t.Errorf("the lead is %d, %v", lead, ok)
	}
	if got := x.m.Seen(1); got.View != first() || got.Last.Epoch != 2 {
		t.Errorf("the chip 1: %v", got)
	}
	acts := x.acts()
	x.open()
	if x.acts() != acts {
		t.Error("the second Open writes")
	}
	x = unequal(t, "the chip 1 alone")
	x.chips[0].Put(false)
	x.open()
	x.is(2, nodes{1: "a", 2: "b"})
	x.views(2, 2, 2)
	x.noted(1)
	if lead, ok := x.m.Lead(); lead != 1 || !ok || x.m.Up(0) {
		t.Errorf("the lead is %d, %v", lead, ok)
	}
	x.chips[0].Put(true)
	x.open()
	x.is(2, nodes{1: "a", 2: "b"})
	x.views(2, 2, 2)
}

// P14.1: a member that is gone, or blank, or not Sound is fenced out.
func TestOpenWithoutOne(t *testing.T) {
	for chip := range 2 {
		for i, do := range []func(x *scene){
			func(x *scene) { x.chips[chip].Die() },
			func(x *scene) { x.chips[chip].Put(false) },
			func(x *scene) { x.chips[chip], _ = nand.New(x.p, 20) },
			func(x *scene) { store.Format(x.chips[chip]) },
			func(x *scene) { x.spoil(chip, 1, 2) },
		} {
			x := made(t, fmt.Sprintf("the chip %d, way %d", chip, i))
			x.commits(change(1, "a"), change(2, "b"))
			do(x)
			x.open()
			x.is(2, nodes{1: "a", 2: "b"})
			x.views(2, 2-chip, 2)
			x.noted(1 - chip)
			if got := x.m.Seen(chip); x.m.Up(chip) != (i > 2) || got.Here != (i > 2) || got.Store != (i > 2) || got.Sound != (i == 3) {
				t.Errorf("%s: seen: %v", x.what, got)
			}
		}
	}
}

// P14.1: the fence's Number is above the tie's, and above those of all views on the chips.
func TestFenceNumber(t *testing.T) {
	for _, c := range []struct {
		tie, a, b, number uint64
	}{
		{1, 1, 1, 2}, {4, 1, 1, 5}, {4, 9, 1, 10}, {4, 1, 9, 10}, {4, 7, 9, 10}, {1, 2, 1, 3}, {1, 1 << 40, 5, 1<<40 + 1}, {1<<63 - 1, 1, 1, 1 << 63},
	} {
		x := made(t, fmt.Sprint(c))
		if c.tie > 1 {
			want(t, "Set", x.tie.Set(api.View{Number: c.tie, Members: 3, Base: 1}), api.OK)
		}
		want(t, "Note", x.store(0).Note(api.View{Number: c.a, Members: 3, Base: 1}), api.OK)
		want(t, "Note", x.store(1).Note(api.View{Number: c.b, Members: 3, Base: 1}), api.OK)
		x.commitsAlone(1)
		x.open()
		x.views(c.number, 2, 2)
		x.noted(1)
	}
}

// commitsAlone lets a chip be an epoch ahead of the other one.
func (x *scene) commitsAlone(chip int) {
	x.t.Helper()
	s := opens(x.t, x.what, x.chips[chip])
	want(x.t, x.what, s.Commit(s.Seen()+1), api.OK)
}

// P14.1: where no Number is left that is a view's there is no fence.
func TestFenceNumberEnds(t *testing.T) {
	x := made(t, "the tie's")
	want(t, "Set", x.tie.Set(api.View{Number: 1 << 63, Members: 3, Base: 1}), api.OK)
	x.open()
	x.views(1<<63, 3, 1)
	x.noted(0)
	x.chips[1].Die()
	x.refuses("the tie's", api.ErrArg)
	want(t, "Commit", x.m.Commit(change(1, "a")), api.ErrArg)
	x.is(1, nodes{})
	x = made(t, "a chip's")
	want(t, "Note", x.store(1).Note(api.View{Number: 1 << 63, Members: 3, Base: 1}), api.OK)
	x.commitsAlone(1)
	x.refuses("a chip's", api.ErrArg)
}

// P14.1: the errors of the fence, and of the note; then the tie knows the view all the same.
func TestOpenWorn(t *testing.T) {
	x := made(t, "the fence", noSpares)
	x.chips[1].Die()
	x.chips[0].Fail(true, 0)
	m, e := mirror.Open(x.tie, x.chips[0], x.chips[1])
	want(t, "the fence", e, api.ErrWorn)
	if m != nil {
		t.Error("a mirror is given")
	}
	x.views(2, 1, 1)
	x = made(t, "the note", noSpares)
	want(t, "Set", x.tie.Set(api.View{Number: 2, Members: 3, Base: 1}), api.OK)
	x.chips[0].Fail(true, 0)
	m, e = mirror.Open(x.tie, x.chips[0], x.chips[1])
	want(t, "the note", e, api.ErrWorn)
	if m != nil {
		t.Error("a mirror is given")
	}
	x.open()
	x.noted(0)
}

// P14.1: the chip that was chosen Notes the tie's view, if it has another one; the other one doesn't.
func TestOpenNotes(t *testing.T) {
	for _, v := range []api.View{{Number: 2, Members: 3, Base: 1}, {Number: 7, Members: 3, Base: 0}} {
		x := made(t, fmt.Sprint(v))
		want(t, "Set", x.tie.Set(v), api.OK)
		acts := x.chips[1].Count()
		x.open()
		x.is(1, nodes{})
		x.noted(0)
		if x.chips[1].Count() != acts || x.m.Seen(1).View != first() {
			t.Errorf("%s: the chip 1 has %v", x.what, x.m.Seen(1).View)
		}
		acts = x.acts()
		x.open()
		if x.acts() != acts {
			t.Errorf("%s: it is noted again", x.what)
		}
	}
	x := made(t, "of the same Number")
	want(t, "Note", x.store(0).Note(api.View{Number: 1, Members: 1, Base: 1}), api.OK)
	x.open()
	x.noted(0)
	x = made(t, "the chip 1")
	x.fences(0)
	x.tie.Set(api.View{Number: 5, Members: 2, Base: 2})
	x.open()
	x.noted(1)
	if x.m.Seen(0).View != first() {
		t.Errorf("the chip 0 has %v", x.m.Seen(0).View)
	}
}

// P14.1: a chip that has a view of a greater Number than the tie's notes that one, and goes on.
func TestOpenNotesLesser(t *testing.T) {
	x := made(t, "a greater one")
	ahead := api.View{Number: 6, Members: 1, Base: 1}
	want(t, "Note", x.store(0).Note(ahead), api.OK)
	acts := x.chips[0].Count()
	x.open()
	x.is(1, nodes{})
	x.views(1, 3, 1)
	if x.chips[0].Count() == acts || x.m.Seen(0).View != ahead {
		t.Errorf("the chip 0 has %v, behind %d acts", x.m.Seen(0).View, x.chips[0].Count()-acts)
	}
}
