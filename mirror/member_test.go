package mirror_test

import (
	"bytes"
	"fmt"
	"testing"

	"keelson/api"
	"keelson/nand"
	"keelson/store"
)

// other gives a blank chip with the same power.
func (x *scene) other(blocks int, bad ...int) *nand.Chip {
	x.t.Helper()
	c, e := nand.New(x.p, blocks, bad...)
	want(x.t, x.what, e, api.OK)
	return c
}

// replaces puts a chip in a chip's place.
func (x *scene) replaces(chip int, c *nand.Chip) {
	x.chips[chip] = c
	x.m.Replace(chip, c)
}

// unchanged tells of a call that doesn't answer an error, or changes something that the mirror or the chips tell.
func (x *scene) unchanged(what string, e api.Errno, call func(chip int) api.Errno, chip int) {
	x.t.Helper()
	acts, is := x.acts(), x.state()
	want(x.t, fmt.Sprintf("%s: %s: the chip %d", x.what, what, chip), call(chip), e)
	if x.acts() != acts || x.state() != is {
		x.t.Errorf("%s: %s: the chip %d: something has changed", x.what, what, chip)
	}
}

// P14.5: a chip that is put in another one's place isn't up; all else is as it was, and nothing is done.
func TestReplace(t *testing.T) {
	for chip := range 2 {
		x := made(t, fmt.Sprint("the chip ", chip))
		x.commits(change(1, "a"))
		old, acts := x.chips[chip], x.acts()
		c := x.other(40)
		x.replaces(chip, c)
		x.tells("replaced", 3, 2-chip)
		x.views(1, 3, 1)
		x.tellsAll(nodes{1: "a"})
		if old.Count()+x.chips[1-chip].Count() != acts || c.Count() != 0 {
			t.Errorf("%s: an act was done", x.what)
		}
		c.Put(false)
		if x.m.Lives(chip) || !x.m.Lives(1-chip) {
			t.Errorf("%s: the old one is in its place", x.what)
		}
		c.Put(true)
		x.commits(change(2, "b"))
		x.is(3, nodes{1: "a", 2: "b"})
		x.views(2, 2-chip, 2)
		x.replaces(1-chip, x.other(16))
		x.tells("both are replaced", 2-chip, 0)
	}
	x := made(t, "no chip")
	for _, chip := range odd() {
		x.m.Replace(chip, x.other(16))
	}
	x.tells("behind it", 3, 3)
}

// P14.5: a chip that is put in its own place isn't up, till it is Recalled; it is a member all the time.
func TestReplaceItself(t *testing.T) {
	for chip := range 2 {
		x := made(t, fmt.Sprint("the chip ", chip))
		x.commits(change(1, "a"))
		acts := x.acts()
		x.m.Replace(chip, x.chips[chip])
		x.tells("replaced", 3, 2-chip)
		want(t, "Recall", x.m.Recall(chip), api.OK)
		x.tells("recalled", 3, 3)
		if x.acts() != acts {
			t.Errorf("%s: an act was done", x.what)
		}
		x.commits(change(2, "b"))
		x.is(3, nodes{1: "a", 2: "b"})
		x.views(1, 3, 1)
	}
}

// P14.5: the errors of Recall, in their order, by which nothing changes.
func TestRecallErrors(t *testing.T) {
	x := made(t, "errors")
	x.commits(change(1, "a"))
	for _, chip := range append(odd(), 0, 1) {
		x.unchanged("both are up", api.ErrArg, x.m.Recall, chip)
	}
	x.chips[1].Put(false)
	x.unchanged("it is out", api.ErrDead, x.m.Recall, 1)
	x.chips[1].Put(true)
	x.fences(1, change(2, "b"))
	x.unchanged("it is up, and no member", api.ErrArg, x.m.Recall, 1)
	x.chips[0].Put(false)
	x.unchanged("it is up, and there is no lead", api.ErrArg, x.m.Recall, 1)
	x.unchanged("the lead is out", api.ErrDead, x.m.Recall, 0)
	x.replaces(1, x.other(16))
	x.unchanged("there is no lead", api.ErrDead, x.m.Recall, 1)
	x.off()
	x.unchanged("nor power", api.ErrDead, x.m.Recall, 1)
	x.chips[0].Put(true)
	x.unchanged("no power", api.ErrDown, x.m.Recall, 1)
	for _, chip := range append(odd(), 0) {
		x.unchanged("no power", api.ErrArg, x.m.Recall, chip)
	}
	x.p.On()
	x.unchanged("a blank chip that is no member", api.ErrNoLog, x.m.Recall, 1)
	x.chips[1].Die()
	x.unchanged("a dead chip", api.ErrDead, x.m.Recall, 1)
}

// P14.5: a chip that is no member is up behind Recall, whatever it holds, without a fence.
func TestRecallNoMember(t *testing.T) {
	for i, do := range []func(x *scene){
		func(x *scene) {},
		func(x *scene) { x.spoil(1, 1, 2) },
		func(x *scene) { store.Format(x.chips[1]) },
		func(x *scene) { x.commitsAlone(1) },
		func(x *scene) { x.chips[1] = x.other(18); store.Format(x.chips[1]) },
	} {
		x := made(t, fmt.Sprint("way ", i))
		x.commits(change(1, "a"))
		x.fences(1, change(2, "b"))
		do(x)
		x.replaces(1, x.chips[1])
		acts := x.acts()
		want(t, x.what, x.m.Recall(1), api.OK)
		x.tells("recalled", 1, 3)
		x.views(2, 1, 2)
		if x.acts() != acts {
			t.Errorf("%s: an act was done", x.what)
		}
	}
}

// P14.5: a member that can't be opened, isn't Sound, or is of another epoch is fenced out; if it could be opened it is up.
func TestRecallFences(t *testing.T) {
	for chip := range 2 {
		for i, c := range []struct {
			do   func(x *scene)
			want api.Errno
		}{
			{func(x *scene) { x.chips[chip] = x.other(16) }, api.ErrNoLog},
			{func(x *scene) { x.spoil(chip, 1, 2) }, api.OK},
			{func(x *scene) { store.Format(x.chips[chip]) }, api.OK},
			{func(x *scene) { x.commitsAlone(chip) }, api.OK},
			{func(x *scene) { want(t, x.what, x.like(chip, "b"), api.OK) }, api.OK},
		} {
			x := made(t, fmt.Sprintf("the chip %d, way %d", chip, i))
			x.commits(change(1, "a"))
			c.do(x)
			x.replaces(chip, x.chips[chip])
			want(t, x.what, x.m.Recall(chip), c.want)
			x.views(2, 2-chip, 2)
			x.noted(1 - chip)
			up := 3
			if c.want != api.OK {
				up = 2 - chip
			}
			x.tells("recalled", 2-chip, up)
			x.tellsAll(nodes{1: "a"})
		}
	}
}

// P14.5: and so is a member in whose Commit the power went, behind the lead's.
func TestRecallBehind(t *testing.T) {
	x := unequal(t, "behind")
	x.replaces(1, x.chips[1])
	want(t, "Recall", x.m.Recall(1), api.OK)
	x.views(2, 1, 3)
	x.tells("recalled", 1, 3)
	x.is(3, nodes{1: "c", 3: "d"})
	x = unequal(t, "ahead")
	x.replaces(0, x.chips[0])
	want(t, "Recall", x.m.Recall(0), api.OK)
	x.views(2, 2, 2)
	x.tells("recalled", 2, 3)
	x.is(2, nodes{1: "a", 2: "b"})
}

// like lets a chip hold a store of the same epoch, but of another node.
func (x *scene) like(chip int, body string) api.Errno {
	s, e := store.Format(x.chips[chip])
	if e != api.OK {
		return e
	}
	return s.Commit(x.m.Epoch(), change(2, body))
}

// P14.5: a member that is recalled where the lead can't note the fence isn't up; the view is known to the tie.
func TestRecallWorn(t *testing.T) {
	x := made(t, "worn", noSpares)
	x.replaces(1, x.other(16))
	want(t, "Format", x.like(1, "b"), api.OK)
	x.chips[0].Fail(true, 0)
	want(t, "Recall", x.m.Recall(1), api.ErrWorn)
	x.views(2, 1, 1)
	x.tells("behind it", 1, 1)
	want(t, "Recall", x.m.Recall(1), api.OK)
	x.tells("then", 1, 3)
}

// P14.5: the Number of the fence is above that of the view on the chip that is recalled, too.
func TestRecallNumber(t *testing.T) {
	x := made(t, "a greater one")
	x.replaces(1, x.other(16))
	want(t, "Format", x.like(1, "b"), api.OK)
	want(t, "Note", opens(t, x.what, x.chips[1]).Note(api.View{Number: 30, Members: 2, Base: 9}), api.OK)
	want(t, "Recall", x.m.Recall(1), api.OK)
	x.views(31, 1, 1)
	x.noted(0)
}

// P14.5: Recall of a member without power: it can't be opened, so that there is a fence; that can't be noted.
func TestRecallDown(t *testing.T) {
	x := made(t, "down")
	x.commits(change(1, "a"))
	x.replaces(1, x.chips[1])
	x.off()
	acts := x.acts()
	want(t, "Recall", x.m.Recall(1), api.ErrDown)
	x.views(2, 1, 2)
	x.p.On()
	x.tells("behind it", 1, 1)
	if x.acts() != acts {
		t.Error("an act was done")
	}
	x.open()
	x.is(2, nodes{1: "a"})
	x.noted(0)
}

// P14.5: the errors of Renew, in their order.
func TestRenewErrors(t *testing.T) {
	x := made(t, "errors")
	x.commits(change(1, "a"))
	for _, chip := range append(odd(), 0, 1) {
		x.unchanged("both are members", api.ErrArg, x.m.Renew, chip)
	}
	x.chips[1].Put(false)
	x.unchanged("a member that is out", api.ErrArg, x.m.Renew, 1)
	x.chips[1].Put(true)
	x.replaces(1, x.other(16))
	x.unchanged("a blank chip in a member's place", api.ErrArg, x.m.Renew, 1)
	x.commits(change(2, "b"))
	x.off()
	x.unchanged("no power", api.ErrDown, x.m.Renew, 1)
	x.unchanged("no power, and a member", api.ErrArg, x.m.Renew, 0)
	x.chips[1].Put(false)
	x.unchanged("no power, no chip", api.ErrDown, x.m.Renew, 1)
	x.p.On()
	x.unchanged("no chip", api.ErrDead, x.m.Renew, 1)
	x.replaces(1, x.other(16, 0))
	x.unchanged("a worn chip", api.ErrWorn, x.m.Renew, 1)
}

// P14.5: Renew lets a chip that is no member hold nothing, and be up, whatever it was, also if there is no lead.
func TestRenew(t *testing.T) {
	for i, do := range []func(x *scene){
		func(x *scene) {},
		func(x *scene) { x.replaces(1, x.chips[1]) },
		func(x *scene) { x.replaces(1, x.other(20)) },
		func(x *scene) { x.chips[0].Put(false) },
		func(x *scene) { x.spoil(1, 1, 2); x.replaces(1, x.chips[1]) },
	} {
		x := made(t, fmt.Sprint("way ", i))
		x.commits(change(1, "a"))
		x.fences(1, change(2, "b"))
		do(x)
		before := x.chips[0].Count()
		want(t, x.what, x.m.Renew(1), api.OK)
		x.chips[0].Put(true)
		x.tells("renewed", 1, 3)
		x.views(2, 1, 2)
		x.is(3, nodes{1: "a", 2: "b"})
		if got := ofChip(t, x.what, x.chips[1]); len(got) != 0 || x.m.Seen(1).Last != (api.Commit{}) || x.chips[0].Count() != before {
			t.Errorf("%s: %v", x.what, got)
		}
	}
}

// P14.5, rule 3: a chip whose Renew broke off is up, or not, as it was; and its store is then what it holds.
func TestRenewBreaksOff(t *testing.T) {
	for _, up := range []bool{true, false} {
		for after := 0; ; after++ {
			x := made(t, fmt.Sprintf("up: %v, Cut %d", up, after))
			x.commits(change(1, "a"), change(2, "b"))
			x.fences(1)
			if !up {
				x.replaces(1, x.chips[1])
			}
			x.p.Cut(after, 1)
			e := x.m.Renew(1)
			if x.m.Up(1) != (up || e == api.OK) {
				t.Errorf("%s: Up is %v without power", x.what, x.m.Up(1))
			}
			x.p.On()
			if e == api.OK {
				break
			}
			want(t, x.what, e, api.ErrDown)
			x.views(2, 1, 2)
			is := 1
			if up {
				is = 3
			}
			x.tells("behind it", 1, is)
			if x.m.Seen(1).Last != x.m.Seen(0).Last || !up {
				want(t, x.what, x.m.Join(1), map[bool]api.Errno{true: api.ErrBusy, false: api.ErrArg}[up])
			}
			x.joins(1)
			x.is(3, nodes{1: "a", 2: "b"})
		}
	}
}

// P14.5, rule 3: and so is one whose Renew finds it worn, in whatever erase.
func TestRenewWorn(t *testing.T) {
	for erase := range 10 {
		x := made(t, fmt.Sprint("the erase ", erase), nil, noSpares)
		x.commits(change(1, "a"), change(2, "b"))
		x.fences(1)
		x.chips[1].Fail(false, erase)
		want(t, x.what, x.m.Renew(1), api.ErrWorn)
		x.tells("behind it", 1, 3)
		x.joins(1)
		x.commits(change(3, "c"))
		x.is(4, nodes{1: "a", 2: "b", 3: "c"})
	}
}

// P14.5: the errors of Join, in their order, by which nothing changes.
func TestJoinErrors(t *testing.T) {
	x := made(t, "errors")
	x.commits(change(1, "a"))
	for _, chip := range append(odd(), 0, 1) {
		x.unchanged("both are members", api.ErrArg, x.m.Join, chip)
	}
	x.fences(1, change(2, "b"))
	x.unchanged("of another epoch", api.ErrBusy, x.m.Join, 1)
	x.unchanged("a member", api.ErrArg, x.m.Join, 0)
	want(t, "Renew", x.m.Renew(1), api.OK)
	x.unchanged("it holds nothing", api.ErrBusy, x.m.Join, 1)
	want(t, "like", x.like(1, "b"), api.OK)
	x.replaces(1, x.chips[1])
	x.unchanged("it isn't up", api.ErrArg, x.m.Join, 1)
	want(t, "Recall", x.m.Recall(1), api.OK)
	x.unchanged("it holds another node, of the same epoch", api.ErrBusy, x.m.Join, 1)
	x.chips[0].Put(false)
	x.unchanged("there is no lead", api.ErrDead, x.m.Join, 1)
	x.unchanged("the lead", api.ErrArg, x.m.Join, 0)
	x.chips[1].Put(false)
	x.unchanged("it is out", api.ErrArg, x.m.Join, 1)
}

// P14.5: Join of the chip that is as the lead: the view has both from the lead's Epoch on, and so have both chips.
func TestJoin(t *testing.T) {
	for chip := range 2 {
		x := made(t, fmt.Sprint("the chip ", chip))
		x.commits(change(1, "a"))
		x.fences(chip, change(2, "b"))
		x.commits(gone(1), change(3, "c"))
		x.joins(chip)
		x.tells("joined", 3, 3)
		x.views(3, 3, 4)
		x.noted(0)
		x.noted(1)
		all := nodes{2: "b", 3: "c"}
		x.is(4, all)
		acts := x.acts()
		x.open()
		if x.acts() != acts || !x.m.Member(0) || !x.m.Member(1) {
			t.Errorf("%s: Open writes, or fences", x.what)
		}
		x.commits(change(4, "d"))
		x.chips[1-chip].Die()
		x.is(5, all.with(change(4, "d")))
		x.open()
		x.is(5, all.with(change(4, "d")))
		x.views(4, 1+chip, 5)
	}
}

// P14.5: the lead notes the view ahead of the chip, and the tie knows it last: wherever the power goes, the lead is alone.
func TestJoinOrder(t *testing.T) {
	for after := 0; ; after++ {
		x := made(t, fmt.Sprint("Cut ", after))
		x.commits(change(1, "a"))
		x.fences(1)
		want(t, "Renew", x.m.Renew(1), api.OK)
		x.copies(1)
		x.p.Cut(after, 258)
		e := x.m.Join(1)
		x.p.On()
		if e == api.OK {
			x.views(3, 3, 3)
			break
		}
		want(t, x.what, e, api.ErrDown)
		x.views(2, 1, 2)
		joined := api.View{Number: 3, Members: 3, Base: 3}
		lead, _ := opens(t, x.what, x.chips[0]).View()
		other, _ := opens(t, x.what, x.chips[1]).View()
		if other == joined && lead != joined {
			t.Errorf("%s: the chip has it ahead of the lead", x.what)
		}
		x.open()
		x.is(3, nodes{1: "a"})
		x.views(2, 1, 2)
		// A view of that Number may stand on a chip by now.
		want(t, x.what, x.m.Join(1), api.OK)
		number := uint64(3)
		if lead == joined {
			number = 4
		}
		x.views(number, 3, 3)
		x.noted(0)
		x.noted(1)
	}
}

// P14.5: the Number of the view is above those of all views that were seen; where none is left it is ErrArg.
func TestJoinNumber(t *testing.T) {
	for _, c := range []struct {
		noted [2]uint64
		want  uint64
	}{
		{[2]uint64{1, 1}, 3}, {[2]uint64{5, 1}, 6}, {[2]uint64{1, 5}, 6}, {[2]uint64{7, 5}, 8}, {[2]uint64{1, 1<<63 - 1}, 1 << 63}, {[2]uint64{1, 1 << 63}, 0}, {[2]uint64{1 << 63, 1}, 0},
	} {
		x := made(t, fmt.Sprint(c))
		x.fences(1)
		want(t, "Renew", x.m.Renew(1), api.OK)
		x.copies(1)
		for chip, number := range c.noted {
			want(t, "Note", x.store(chip).Note(api.View{Number: number, Members: 1}), api.OK)
		}
		if c.want == 0 {
			x.unchanged("no Number is left", api.ErrArg, x.m.Join, 1)
			continue
		}
		want(t, x.what, x.m.Join(1), api.OK)
		x.views(c.want, 3, 2)
		x.noted(0)
		x.noted(1)
	}
}

// P14.5: the errors of the notes, of the lead and of the chip; the lead is alone then, and goes on.
func TestJoinWorn(t *testing.T) {
	for worn := range 2 {
		bad := [][]int{nil, nil}
		bad[worn] = noSpares
		x := made(t, fmt.Sprint("the chip ", worn), bad...)
		x.fences(1)
		want(t, "Renew", x.m.Renew(1), api.OK)
		x.copies(1)
		x.chips[worn].Fail(true, 0)
		want(t, x.what, x.m.Join(1), api.ErrWorn)
		x.views(2, 1, 1)
		x.tells("behind it", 1, 3)
		want(t, x.what, x.m.Join(1), api.OK)
		x.views(uint64(3+worn), 3, 2)
		x.is(2, nodes{})
	}
}

// P14.8: chips that are put in are kept, others aren't touched any more.
func TestReplaceKeeps(t *testing.T) {
	x := made(t, "kept")
	old := x.chips[1]
	x.commits(change(1, "a"))
	before, count := image(old), old.Count()
	x.replaces(1, x.other(16))
	want(t, "Recall", x.m.Recall(1), api.ErrNoLog)
	x.joins(1)
	x.commits(change(2, "b"))
	x.is(3, nodes{1: "a", 2: "b"})
	if !bytes.Equal(image(old), before) || old.Count() != count {
		t.Error("the chip that was replaced was touched")
	}
	old.Die()
	if !x.m.Lives(1) || !x.m.Up(1) {
		t.Error("it is the one that was replaced that counts")
	}
}
