package mirror_test

import (
	"fmt"
	"testing"

	"keelson/api"
	"keelson/mirror"
	"keelson/nand"
)

// happening is a call in which the power goes, and what is ahead of it.
type happening struct {
	name string
	set  func(x *scene)
	do   func(x *scene) api.Errno
	// changes are those of the call, if it is a Commit.
	changes []api.Change
	bad     [2][]int
}

// commit is a happening that is a Commit.
func commit(name string, set func(x *scene), changes ...api.Change) happening {
	do := func(x *scene) api.Errno { return x.m.Commit(changes...) }
	return happening{name: name, set: set, do: do, changes: changes}
}

// opensAnew is the mirror Opened anew.
func opensAnew(x *scene) api.Errno {
	m, e := mirror.Open(x.tie, x.chips[0], x.chips[1])
	if e == api.OK {
		x.m = m
	}
	return e
}

// few lets there be some nodes.
func few(x *scene) {
	x.t.Helper()
	x.commits(change(1, "a"), change(2, "b"))
	x.commits(gone(2), change(3, "c"))
}

// full lets there be as many nodes as may be, of many epochs, so that room must be made.
func full(x *scene) {
	x.t.Helper()
	few(x)
	x.commits(filled(19, "full")...)
	for i := range 25 {
		x.commits(change(i%19, fmt.Sprint("round ", i)), change((i+7)%19, fmt.Sprint("turn ", i)))
	}
}

// back lets the chip come back as far as to the Join.
func back(chip int) func(x *scene) {
	return func(x *scene) {
		few(x)
		x.fences(chip, change(1, "d"))
		want(x.t, x.what, x.m.Renew(chip), api.OK)
		x.copies(chip)
	}
}

// someCommits are the happenings that are Commits.
func someCommits() []happening {
	changes := []api.Change{change(1, "new"), gone(3), change(9, "more")}
	list := []happening{
		commit("a Commit", few, changes...),
		commit("a Commit without changes", few),
		commit("a Commit, opened", func(x *scene) { few(x); x.open() }, changes...),
		commit("a Commit of all", full, filled(19, "new")...),
		commit("a Commit behind one that broke off", func(x *scene) {
			few(x)
			x.p.Cut(1, 258)
			want(x.t, x.what, x.m.Commit(change(1, "x"), change(3, "y")), api.ErrDown)
			x.p.On()
			x.open()
		}, changes...),
	}
	for chip := range 2 {
		list = append(list,
			commit(fmt.Sprint("a Commit without the chip ", chip), func(x *scene) { few(x); x.chips[chip].Put(false) }, changes...),
			commit(fmt.Sprint("a Commit behind the death of the chip ", chip), func(x *scene) { full(x); x.chips[chip].Die() }, changes...),
			commit(fmt.Sprint("a Commit with a blank chip ", chip), func(x *scene) { few(x); x.replaces(chip, x.other(16)) }, changes...),
			commit(fmt.Sprint("a Commit of the chip alone that isn't ", chip), func(x *scene) { few(x); x.fences(chip, change(4, "e")) }, changes...),
			commit(fmt.Sprint("a Commit behind the Join of the chip ", chip), func(x *scene) { back(chip)(x); want(x.t, x.what, x.m.Join(chip), api.OK) }, changes...),
		)
		for fails := range 3 {
			h := commit(fmt.Sprintf("a Commit in which the chip %d is worn in its program %d", chip, fails), func(x *scene) { few(x); x.chips[chip].Fail(true, fails) }, changes...)
			h.bad[chip] = noSpares
			list = append(list, h)
		}
	}
	return list
}

// someCalls are the happenings that are other calls.
func someCalls() []happening {
	noted := func(x *scene) {
		few(x)
		want(x.t, x.what, x.tie.Set(api.View{Number: 5, Members: 3, Base: 2}), api.OK)
	}
	list := []happening{
		{name: "an Open with a note", set: noted, do: opensAnew},
		{name: "an Open of chips of two epochs", set: func(x *scene) { few(x); x.commitsAlone(0) }, do: opensAnew},
		{name: "an Open of chips of which the chip 1 is ahead", set: func(x *scene) { few(x); x.commitsAlone(1) }, do: opensAnew},
		{name: "an Open of a full store", set: func(x *scene) { full(x); x.commitsAlone(0) }, do: opensAnew},
	}
	for chip := range 2 {
		recall := func(x *scene) api.Errno {
			if e := x.m.Recall(chip); e != api.ErrNoLog {
				return e
			}
			return api.OK
		}
		renew := func(x *scene) api.Errno { return x.m.Renew(chip) }
		list = append(list,
			happening{name: fmt.Sprint("an Open without the chip ", chip), set: func(x *scene) { few(x); x.chips[chip].Die() }, do: opensAnew},
			happening{name: fmt.Sprint("an Open with a blank chip ", chip), set: func(x *scene) { few(x); x.chips[chip] = x.other(16) }, do: opensAnew},
			happening{name: fmt.Sprint("an Open with the spoilt chip ", chip), set: func(x *scene) { few(x); x.spoil(chip, 1, 2) }, do: opensAnew},
			happening{name: fmt.Sprint("a Recall of the chip in place of ", chip), set: func(x *scene) { few(x); x.replaces(chip, x.other(16)) }, do: recall},
			happening{name: fmt.Sprint("a Recall of the spoilt chip ", chip), set: func(x *scene) { few(x); x.spoil(chip, 1, 2); x.replaces(chip, x.chips[chip]) }, do: recall},
			happening{name: fmt.Sprint("a Renew of the chip ", chip), set: func(x *scene) { few(x); x.fences(chip, change(4, "e")) }, do: renew},
			happening{name: fmt.Sprint("a Renew of the chip in place of ", chip), set: func(x *scene) { few(x); x.replaces(chip, x.other(16)); x.commits(change(4, "e")) }, do: renew},
			happening{name: fmt.Sprint("a Join of the chip ", chip), set: back(chip), do: func(x *scene) api.Errno { return x.m.Join(chip) }},
		)
	}
	return list
}

// holder tells whether a member of the tie's view lives that holds what it should.
func (x *scene) holder(genuine [2]*nand.Chip) bool {
	for chip, c := range x.chips {
		if members := x.tie.Get().Members; members>>chip&1 != 0 && c.Live() && c == genuine[chip] && opens(x.t, x.what, c).Sound() {
			return true
		}
	}
	return false
}

// reopens Opens the mirror, of which the power goes in each act at first, one behind the other.
func (x *scene) reopens(keep int) {
	x.t.Helper()
	for after := range 100 {
		x.p.Cut(after, keep)
		m, e := mirror.Open(x.tie, x.chips[0], x.chips[1])
		x.p.On()
		if e == api.OK {
			x.m = m
			return
		}
		if m != nil || e != api.ErrDown {
			x.t.Fatalf("%s: Open: %v", x.what, e)
		}
	}
	x.t.Fatalf("%s: Open doesn't end", x.what)
}

// goesOn tells of a mirror that can't be used as any other one: the chip that isn't the lead comes back, then the lead may go.
func (x *scene) goesOn(all nodes) {
	x.t.Helper()
	x.commits(gone(9), change(5, "on"))
	all = all.with(gone(9), change(5, "on"))
	x.is(x.m.Epoch(), all)
	lead, _ := x.m.Lead()
	other := 1 - lead
	x.chips[other].Put(true)
	if !x.chips[other].Live() {
		x.replaces(other, x.other(16))
	}
	if !x.m.Member(other) {
		x.joins(other)
	}
	x.commits(change(6, "and on"))
	all = all.with(change(6, "and on"))
	x.chips[lead].Put(false)
	x.open()
	x.is(x.m.Epoch(), all)
}

// P14.6, P14.7: wherever the power goes, and whatever is kept, also in the Opens behind it: Open gives the nodes that were, or that would be behind the call; or writes nothing.
func TestCutAnywhere(t *testing.T) {
	t.Parallel()
	for _, h := range append(someCommits(), someCalls()...) {
		t.Run(h.name, func(t *testing.T) {
			t.Parallel()
			for _, without := range []int{-1, 0, 1} {
				for _, keep := range keeps {
					for after := 0; ; after++ {
						if h.cut(t, after, keep, without) {
							break
						}
					}
				}
			}
		})
	}
}

// cut lets the power go in the call, then opens without one of the chips, and tells whether the call was done.
func (h happening) cut(t *testing.T, after, keep, without int) bool {
	t.Helper()
	x := made(t, fmt.Sprintf("%s, Cut(%d, %d), without %d", h.name, after, keep, without), h.bad[:]...)
	genuine := x.chips
	h.set(x)
	all := []nodes{ofMirror(t, x.what, x.m)}
	all = append(all, all[0].with(h.changes...))
	epoch, before := x.m.Epoch(), x.acts()
	x.p.Cut(after, keep)
	e := h.do(x)
	x.p.On()
	if e == api.OK {
		all, epoch = all[1:], x.m.Epoch()
	} else if e != api.ErrDown || x.acts() != before+after+1 {
		t.Errorf("%s: %v, %d acts", x.what, e, x.acts()-before)
	}
	for _, c := range x.chips {
		c.Fail(true)
	}
	if without >= 0 {
		x.chips[without].Put(false)
	}
	if !x.holder(genuine) {
		_, e := mirror.Open(x.tie, x.chips[0], x.chips[1])
		x.refuses("no member is there", e)
		if e == api.OK {
			t.Errorf("%s: it is opened", x.what)
		}
		return before+after >= x.acts()
	}
	x.reopens(keep)
	got := ofMirror(t, x.what, x.m)
	lead, ok := x.m.Lead()
	if !ok || !x.m.Member(lead) || !got.in(all) || x.m.Epoch() < epoch {
		t.Errorf("%s: the lead %d of the epoch %d with %v, not %v", x.what, lead, x.m.Epoch(), got, all)
	}
	x.is(x.m.Epoch(), got)
	x.goesOn(got)
	return e == api.OK
}
