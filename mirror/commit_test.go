package mirror_test

import (
	"fmt"
	"math"
	"strings"
	"testing"

	"keelson/api"
	"keelson/store"
)

// P14.4: commits, one behind the other, on both chips.
func TestCommit(t *testing.T) {
	x := made(t, "both")
	all, epoch := nodes{}, uint64(1)
	for i, changes := range [][]api.Change{
		{change(5, "x")},
		{gone(5), change(6, "y")},
		nil,
		{change(255, "last"), change(0, "first"), change(6, "")},
		{gone(100), gone(255)},
		{{Key: 3, Gone: true, Body: []byte("of no matter")}, {Key: 9}},
		{change(7, strings.Repeat("z", 224))},
		{gone(0), gone(6), gone(7), gone(9)},
	} {
		x.what = fmt.Sprint("Commit ", i)
		x.commits(changes...)
		all, epoch = all.with(changes...), epoch+1
		x.is(epoch, all)
		x.views(1, 3, 1)
		x.tells(x.what, 3, 3)
		if x.m.Seen(0) != x.m.Seen(1) {
			t.Errorf("%s: the chips differ", x.what)
		}
	}
}

// P14.4: the chip 0 commits ahead of the chip 1.
func TestCommitOrder(t *testing.T) {
	x := unequal(t, "in order")
	if opens(t, x.what, x.chips[0]).Epoch() != 3 || opens(t, x.what, x.chips[1]).Epoch() != 2 {
		t.Error("the chip 0 isn't ahead")
	}
}

// refusal is what a Commit refuses.
type refusal struct {
	what    string
	changes []api.Change
	want    api.Errno
}

// refusals are such Commits, of a mirror of 19 nodes that has 18, one of the key 40.
func refusals() []refusal {
	long := api.Change{Key: 5, Body: make([]byte, 225)}
	list := []refusal{
		{"a long body", []api.Change{change(1, "x"), long}, api.ErrArg},
		{"a long body of one that is gone", []api.Change{{Key: 5, Gone: true, Body: long.Body}}, api.ErrArg},
		{"two of one Key", []api.Change{change(1, "x"), change(2, "y"), change(1, "x")}, api.ErrArg},
		{"two of one Key, gone", []api.Change{gone(1), change(1, "x")}, api.ErrArg},
		{"two more nodes", []api.Change{change(50, "x"), change(51, "y")}, api.ErrNoSpace},
		{"two more nodes, one less", []api.Change{change(50, "x"), gone(40), change(51, "y"), change(52, "z")}, api.ErrNoSpace},
		{"two more nodes, of which one is gone that isn't there", []api.Change{change(50, "x"), gone(60), change(51, "y")}, api.ErrNoSpace},
		{"all nodes", filled(256, "all"), api.ErrNoSpace},
		{"two more nodes, and a long body", []api.Change{change(50, "x"), change(51, "y"), long}, api.ErrArg},
		{"two more nodes, one of them twice", []api.Change{change(50, "x"), change(51, "y"), gone(50)}, api.ErrArg},
	}
	for _, key := range oddKeys() {
		list = append(list, refusal{fmt.Sprint("the key ", key), []api.Change{change(1, "x"), change(key, "y")}, api.ErrArg})
		list = append(list, refusal{fmt.Sprint("the key ", key, ", gone"), []api.Change{gone(key)}, api.ErrArg})
	}
	return list
}

// refused tells of a Commit that isn't refused, or does something.
func (x *scene) refused(what string, e api.Errno, changes ...api.Change) {
	x.t.Helper()
	acts, is := x.acts(), x.state()
	want(x.t, x.what+": "+what, x.m.Commit(changes...), e)
	if x.acts() != acts || x.state() != is {
		x.t.Errorf("%s: %s: something has changed", x.what, what)
	}
}

// P14.4: ErrDown, ErrDead, ErrArg, ErrNoSpace, in this order: nothing has changed, and nothing was done, also if a member isn't up.
func TestCommitRefused(t *testing.T) {
	x := blank(t, "refused", 16, 40)
	x.make()
	x.commits(append(filled(17, "full"), change(40, "full"))...)
	all := ofMirror(t, x.what, x.m)
	for _, up := range []int{3, 1} {
		x.chips[1].Put(up == 3)
		x.what = fmt.Sprint("up: ", up)
		for _, c := range refusals() {
			x.refused(c.what, c.want, c.changes...)
		}
		x.chips[0].Put(false)
		x.chips[1].Put(false)
		for _, c := range refusals() {
			x.refused(c.what+", no chip", api.ErrDead, c.changes...)
		}
		x.off()
		for _, c := range refusals() {
			x.refused(c.what+", no power, no chip", api.ErrDown, c.changes...)
		}
		x.chips[0].Put(true)
		x.refused("no power", api.ErrDown, change(1, "x"))
		x.p.On()
	}
	x.what = "then"
	x.chips[1].Put(true)
	x.commits(change(50, "one more"))
	x.is(3, all.with(change(50, "one more")))
	x.commits(change(51, "another one"), gone(50), change(0, "again"))
	x.is(4, all.with(change(51, "another one"), change(0, "again")))
}

// P14.4: the Limit that counts is that of the members that are up: a lesser chip that is gone doesn't count, nor one that isn't a member.
func TestCommitLimit(t *testing.T) {
	for chip := range 2 {
		sizes := []int{18, 18}
		sizes[chip] = 16
		x := blank(t, fmt.Sprint("the lesser one is ", chip), sizes[0], sizes[1])
		x.make()
		x.refused("as many as the greater one takes", api.ErrNoSpace, filled(25, "a")...)
		x.refused("one more than the lesser one takes", api.ErrNoSpace, filled(20, "a")...)
		x.commits(filled(19, "a")...)
		x.chips[chip].Put(false)
		x.refused("more than the greater one takes", api.ErrNoSpace, filled(26, "a")...)
		x.commits(filled(25, "b")...)
		x.chips[chip].Put(true)
		x.is(3, nodes{}.with(filled(25, "b")...))
		x.commits(change(24, "c"))
		x.refused("one more", api.ErrNoSpace, change(25, "c"))
	}
}

// P14.4: a member that isn't up is fenced out to the lead, and only then there is the next epoch: the chapter's example.
func TestCommitFences(t *testing.T) {
	for chip := range 2 {
		for i, do := range []func(x *scene){
			func(x *scene) { x.chips[chip].Die() },
			func(x *scene) { x.chips[chip].Put(false) },
			func(x *scene) { x.m.Replace(chip, x.chips[chip]) },
		} {
			x := made(t, fmt.Sprintf("the chip %d, way %d", chip, i))
			for n := range 4 {
				x.commits(change(n, "a"))
			}
			all := ofMirror(t, x.what, x.m)
			do(x)
			acts := x.chips[chip].Count()
			x.p.Cut(0, 258)
			want(t, x.what, x.m.Commit(change(9, "b")), api.ErrDown)
			x.p.On()
			x.views(2, 2-chip, 5)
			x.noted(1 - chip)
			if s := opens(t, x.what, x.chips[1-chip]); s.Epoch() != 5 || s.Seen() != 5 {
				t.Errorf("%s: the fence isn't ahead of the epoch %d", x.what, s.Seen())
			}
			x.open()
			x.is(5, all)
			x.commits(change(9, "b"))
			x.is(6, all.with(change(9, "b")))
			x.views(2, 2-chip, 5)
			if x.chips[chip].Count() != acts {
				t.Errorf("%s: an act of a chip that is no member", x.what)
			}
			x = made(t, "at once")
			x.commits(change(0, "a"))
			do(x)
			x.commits(change(9, "b"))
			x.is(3, nodes{0: "a", 9: "b"})
			x.views(2, 2-chip, 2)
			x.noted(1 - chip)
		}
	}
}

// P14.4: a chip that was fenced out isn't written any more, though it is up.
func TestCommitOfMembersAlone(t *testing.T) {
	for chip := range 2 {
		x := made(t, fmt.Sprint("the chip ", chip))
		x.commits(change(1, "a"))
		x.fences(chip, change(2, "b"))
		before, seen := x.chips[chip].Count(), x.m.Seen(chip)
		x.commits(change(3, "c"))
		x.is(4, nodes{1: "a", 2: "b", 3: "c"})
		x.views(2, 2-chip, 2)
		if x.chips[chip].Count() != before || x.m.Seen(chip) != seen || !x.m.Up(chip) {
			t.Errorf("%s: it was written", x.what)
		}
		x.chips[1-chip].Die()
		want(t, x.what, x.m.Commit(change(4, "d")), api.ErrDead)
		x.refuses("the other one alone", api.ErrStale)
	}
}

// P14.4: the epoch is above all that were Seen by any member, and above the view's Base.
func TestCommitEpoch(t *testing.T) {
	for chip := range 2 {
		x := made(t, fmt.Sprint("Seen by the chip ", chip))
		want(t, "Stage", x.store(chip).Stage(api.Node{Key: 9, Epoch: 40}), api.OK)
		x.commits(change(1, "a"))
		if x.m.Epoch() <= 40 {
			t.Errorf("%s: the epoch is %d", x.what, x.m.Epoch())
		}
		x.is(x.m.Epoch(), nodes{1: "a"})
		x.open()
		x.views(1, 3, 1)
	}
	x := made(t, "Base")
	want(t, "Set", x.tie.Set(api.View{Number: 3, Members: 3, Base: 70}), api.OK)
	x.commits(change(1, "a"))
	if x.m.Epoch() <= 70 {
		t.Errorf("%s: the epoch is %d", x.what, x.m.Epoch())
	}
	x.is(x.m.Epoch(), nodes{1: "a"})
	x = made(t, "broken off")
	x.p.Cut(0, 258)
	want(t, x.what, x.m.Commit(change(1, "a"), change(2, "b")), api.ErrDown)
	x.p.On()
	x.open()
	x.is(1, nodes{})
	if x.m.Seen(0).Seen != 2 || x.m.Seen(1).Seen != 1 {
		t.Fatal("the node isn't there")
	}
	x.commits(change(2, "c"))
	x.is(x.m.Epoch(), nodes{2: "c"})
	if x.m.Epoch() <= 2 {
		t.Errorf("%s: the epoch is %d", x.what, x.m.Epoch())
	}
}

// P1, P14.4: where no epoch is left it is ErrArg, and the nodes are as they were.
func TestCommitEpochEnds(t *testing.T) {
	x := made(t, "the last epoch")
	x.commits(change(1, "a"))
	want(t, "Stage", x.store(1).Stage(api.Node{Key: 9, Epoch: math.MaxUint64}), api.OK)
	want(t, "Commit", x.m.Commit(change(1, "b")), api.ErrArg)
	x.is(2, nodes{1: "a"})
	x.views(1, 3, 1)
}

// P14.4: a member that is worn is fenced out, and the other one commits alone; the chip is up all the same.
func TestCommitWorn(t *testing.T) {
	for chip := range 2 {
		bad := [][]int{nil, nil}
		bad[chip] = noSpares
		for fails := range 3 {
			x := made(t, fmt.Sprintf("the chip %d, program %d", chip, fails), bad...)
			x.commits(change(1, "a"))
			x.chips[chip].Fail(true, fails)
			x.commits(change(2, "b"), change(3, "c"))
			x.is(3, nodes{1: "a", 2: "b", 3: "c"})
			// The base of the other one: the chip 0 has committed by then, the chip 1 hasn't.
			x.views(2, 2-chip, []uint64{2, 3}[chip])
			x.noted(1 - chip)
			x.tells("behind it", 2-chip, 3)
			x.open()
			x.is(3, nodes{1: "a", 2: "b", 3: "c"})
		}
	}
}

// P14.4: if both are worn, or the one that is alone, that is the answer; the nodes are as they were, or those behind it.
func TestCommitBothWorn(t *testing.T) {
	for chip := range 2 {
		bad := [][]int{nil, nil}
		bad[chip] = noSpares
		x := made(t, fmt.Sprintf("the chip %d alone", chip), bad...)
		x.commits(change(1, "a"))
		x.fences(1-chip, change(1, "b"))
		x.chips[chip].Fail(true, 0)
		want(t, x.what, x.m.Commit(change(2, "c")), api.ErrWorn)
		x.views(2, 1+chip, 2)
		x.is(3, nodes{1: "b"})
		x.chips[chip].Put(false)
		want(t, x.what, x.m.Commit(change(2, "c")), api.ErrDead)
	}
	x := made(t, "both", noSpares, noSpares)
	x.commits(change(1, "a"))
	x.chips[0].Fail(true, 0)
	x.chips[1].Fail(true, 0)
	want(t, "the note fails", x.m.Commit(change(2, "c")), api.ErrWorn)
	x.views(2, 2, 2)
	x.is(2, nodes{1: "a"})
	x = made(t, "both, later", noSpares, noSpares)
	x.commits(change(1, "a"))
	x.chips[0].Fail(true, 0)
	x.chips[1].Fail(true, 1)
	want(t, "the commit fails", x.m.Commit(change(2, "c")), api.ErrWorn)
	x.views(2, 2, 2)
	x.noted(1)
	x.is(2, nodes{1: "a"})
}

// P14.4, P14.7: a member that has committed, and is alone then, is OK also where it can't note that it is, but for ErrDown; what it has committed is what Open gives.
func TestCommitNoteWorn(t *testing.T) {
	for _, down := range []bool{false, true} {
		x := made(t, fmt.Sprint("the note fails behind the commit, down: ", down), noSpares, noSpares)
		x.commits(change(1, "a"))
		x.chips[1].Fail(true, 0)
		// The node and the commit of the chip 0, the node of the chip 1, the note.
		if down {
			x.p.Cut(3, 0)
			want(t, x.what, x.m.Commit(change(2, "b")), api.ErrDown)
			x.p.On()
		} else {
			x.chips[0].Fail(true, 2)
			x.commits(change(2, "b"))
		}
		x.views(2, 1, 3)
		if v, _ := opens(t, x.what, x.chips[0]).View(); v.Number != 1 {
			t.Errorf("%s: the note is there: %v", x.what, v)
		}
		x.is(3, nodes{1: "a", 2: "b"})
		x.open()
		x.noted(0)
		x.is(3, nodes{1: "a", 2: "b"})
		x.commits(change(3, "c"))
		x.is(4, nodes{1: "a", 2: "b", 3: "c"})
		x.views(2, 1, 3)
	}
}

// P14.4: the lead that can't note the fence: its error.
func TestCommitFenceWorn(t *testing.T) {
	x := made(t, "worn", nil, noSpares)
	x.commits(change(1, "a"))
	x.chips[0].Die()
	x.chips[1].Fail(true, 0)
	want(t, "Commit", x.m.Commit(change(1, "b")), api.ErrWorn)
	x.views(2, 2, 2)
	x.is(2, nodes{1: "a"})
	x.commits(change(1, "b"))
	x.is(3, nodes{1: "b"})
	x.views(2, 2, 2)
}

// P14.4: ErrDown, wherever the power goes: in the fence, in the one chip or in the other one.
func TestCommitDown(t *testing.T) {
	for after := 0; ; after++ {
		x := made(t, fmt.Sprint("Cut ", after))
		x.commits(change(1, "a"))
		x.chips[1].Put(after%2 == 0)
		acts := x.acts()
		x.p.Cut(after/2, 0)
		e := x.m.Commit(change(1, "b"), change(2, "c"))
		if e == api.OK {
			break
		}
		want(t, x.what, e, api.ErrDown)
		if x.acts() != acts+after/2+1 || !x.m.Off() {
			t.Errorf("%s: %d acts", x.what, x.acts()-acts)
		}
		x.refused("behind it", api.ErrDown, change(1, "b"))
	}
}

// P14.4, P14.6: used on behind ErrDown without Open: what only the one chip has committed then is on both, or on none, with the next Commit.
func TestCommitUsedOn(t *testing.T) {
	x := unequal(t, "used on")
	x.commits(change(5, "e"))
	x.is(4, nodes{1: "c", 3: "d", 5: "e"})
	x.views(1, 3, 1)
	x = unequal(t, "used on, with one alone")
	x.chips[0].Put(false)
	x.commits(change(5, "e"))
	x.is(3, nodes{1: "a", 2: "b", 5: "e"})
	x.views(2, 2, 2)
	x.chips[0].Put(true)
	x.open()
	x.is(3, nodes{1: "a", 2: "b", 5: "e"})
	x = unequal(t, "used on, with what can't be read")
	x.spoil(0, 3, 3)
	x.commits(change(5, "e"))
	x.views(2, 1, 3)
	x.tellsNode("used on", 5, "e", api.OK)
	x.tellsNode("used on", 3, "", api.ErrCorrupt)
	x = unequal(t, "used on, worn", nil, noSpares)
	x.chips[1].Fail(true, 0)
	x.commits(change(5, "e"))
	x.is(4, nodes{1: "c", 3: "d", 5: "e"})
	x.views(2, 1, 3)
}

// P14.4, P14.6: and so it is if the power goes in that, too, wherever.
func TestCommitUsedOnCut(t *testing.T) {
	elder, newer := nodes{1: "a", 2: "b"}, nodes{1: "c", 3: "d"}
	changes := []api.Change{change(1, "f"), change(5, "e")}
	may := []nodes{elder, newer, elder.with(changes...), newer.with(changes...)}
	for _, keep := range fewKeeps {
		for _, without := range []int{-1, 0, 1} {
			for after := 0; ; after++ {
				x := unequal(t, fmt.Sprintf("Cut(%d, %d), without %d", after, keep, without))
				x.p.Cut(after, keep)
				e := x.m.Commit(changes...)
				x.p.On()
				if without >= 0 {
					x.chips[without].Die()
				}
				x.open()
				all := ofMirror(t, x.what, x.m)
				x.is(x.m.Epoch(), all)
				if e == api.OK {
					if !all.in(may[3:]) {
						t.Errorf("%s: %v", x.what, all)
					}
					break
				}
				want(t, x.what, e, api.ErrDown)
				if !all.in(may) {
					t.Errorf("%s: %v", x.what, all)
				}
			}
		}
	}
}

// P14.4: the Number of the fence is above those of all views that were seen, also on a chip that isn't there any more.
func TestCommitFenceNumber(t *testing.T) {
	x := made(t, "on the lead")
	want(t, "Note", x.store(0).Note(api.View{Number: 8, Members: 3}), api.OK)
	x.chips[1].Die()
	x.commits(change(1, "a"))
	x.views(9, 1, 1)
	x.noted(0)
	x = made(t, "on the one that has died")
	want(t, "Note", x.store(1).Note(api.View{Number: 8, Members: 3}), api.OK)
	x.chips[1].Die()
	x.commits(change(1, "a"))
	x.views(9, 1, 1)
	x = made(t, "on one that was replaced")
	want(t, "Note", x.store(1).Note(api.View{Number: 8, Members: 3}), api.OK)
	other := blank(t, "other", 16, 16)
	want(t, "Format", formats(other), api.OK)
	x.m.Replace(1, other.chips[0])
	x.commits(change(1, "a"))
	x.views(9, 1, 1)
}

// formats lets the first of two chips hold an empty store.
func formats(x *scene) api.Errno {
	_, e := store.Format(x.chips[0])
	return e
}

// P14.8: changes that are handed in aren't changed, nor kept; a node's body is new memory.
func TestCommitArguments(t *testing.T) {
	x := made(t, "arguments")
	body := []byte("a body with room")[:6]
	changes := append(make([]api.Change, 0, 5), api.Change{Key: 1, Body: body}, gone(2))
	x.commits(changes...)
	if string(body[:16]) != "a body with room" || changes[0].Key != 1 || !changes[1].Gone || changes[1].Key != 2 || changes[:5][4].Key != 0 {
		t.Error("the changes were changed")
	}
	copy(body, "------")
	changes[0], changes[1] = change(7, "x"), change(8, "y")
	x.is(2, nodes{1: "a body"})
	one, _ := x.m.Node(1)
	two, _ := x.m.Node(1)
	copy(one[:cap(one)], "------------------")
	if string(two) != "a body" {
		t.Error("two answers share memory")
	}
	x.is(2, nodes{1: "a body"})
}
