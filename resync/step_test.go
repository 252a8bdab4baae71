package resync_test

import (
	"fmt"
	"slices"
	"testing"

	"keelson/api"
	"keelson/node"
	"keelson/resync"
)

// few lets there be some nodes.
func few(x *scene) {
	x.t.Helper()
	x.commits(change(1, "a"), change(2, "b"), change(9, "x"))
	x.commits(gone(9), change(3, "c"))
}

// fews are those nodes.
var fews = nodes{1: "a", 2: "b", 3: "c"}

// quiet does a Step, which must answer that, by which no act is done, and the tie doesn't change.
func (x *scene) quiet(what string, done bool, e api.Errno) {
	x.t.Helper()
	acts, v, full := x.acts(), x.tie.Get(), x.r.Full()
	x.steps(what, done, e)
	if x.acts() != acts || x.tie.Get() != v || x.r.Full() != full {
		x.t.Fatalf("%s: %s: it has done something", x.what, what)
	}
}

// holds tells of a chip's store that doesn't hold just these keys as the lead does.
func (x *scene) holds(what string, chip int, keys ...int) {
	x.t.Helper()
	var got []int
	from, to := x.store(1-chip), x.store(chip)
	for _, key := range node.Keys(from.Live()) {
		n, _, e := from.Node(key)
		x.want(what, e, api.OK)
		if to.Holds(key, n.Epoch) {
			got = append(got, key)
		}
	}
	if !slices.Equal(got, keys) {
		x.t.Fatalf("%s: %s: the chip %d holds %v, not %v", x.what, what, chip, got, keys)
	}
}

// empty tells of a chip's store that isn't one that was Renewed.
func (x *scene) empty(what string, chip int) {
	x.t.Helper()
	s := x.store(chip)
	if s.Last() != (api.Commit{}) || s.Seen() != 0 || len(s.Segments()) != 0 || !x.r.Full() {
		x.t.Fatalf("%s: %s: the chip %d holds something, or Full is %v", x.what, what, chip, x.r.Full())
	}
}

// P15.1: New does nothing, and nothing has begun.
func TestNew(t *testing.T) {
	for chip := range 2 {
		x := made(t, fmt.Sprint("the chip ", chip), 16)
		few(x)
		x.fences(chip, change(4, "d"))
		acts, v, s := x.acts(), x.tie.Get(), x.store(chip)
		one, two := resync.New(x.Mirror), resync.New(x.Mirror)
		if one == two || one.Full() || x.acts() != acts || x.tie.Get() != v || x.store(chip) != s {
			t.Errorf("%s: New has done something", x.what)
		}
		// Each of them begins by itself.
		for _, r := range []*resync.Resync{one, two} {
			x.r = r
			x.quiet("it begins", false, api.OK)
			x.holds("it begins", chip, 1, 2, 3)
		}
		x.steps("the other one goes on", false, api.OK)
		x.holds("the other one goes on", chip, 1, 2, 3, 4)
	}
}

// P15.1, P15.2: a Resync has its mirror's methods, too.
func TestPromoted(t *testing.T) {
	x := made(t, "promoted", 16)
	x.want("Commit", x.r.Commit(change(1, "a")), api.OK)
	if body, e := x.r.Node(1); string(body) != "a" || e != api.OK || x.r.Epoch() != x.Epoch() {
		t.Errorf("%q, %v", body, e)
	}
}

// P15.2: no power, then no lead, come ahead of all else.
func TestDownAndDead(t *testing.T) {
	for name, set := range map[string]func(x *scene){
		"both are members":          few,
		"the chip 1 is fenced out":  func(x *scene) { few(x); x.fences(1, change(4, "d")) },
		"the chip 1 is out":         func(x *scene) { few(x); x.chips[1].Put(false) },
		"the chip 1 is blank":       func(x *scene) { few(x); x.puts(1, x.blank(16)) },
		"the chip 1 is coming back": func(x *scene) { few(x); x.fences(1, change(4, "d")); x.steps("begun", false, api.OK) },
	} {
		x := made(t, name, 16)
		set(x)
		lives := x.chips[1].Live()
		x.off()
		x.quiet("no power", false, api.ErrDown)
		x.chips[0].Put(false)
		x.quiet("no power, no chip 0", false, api.ErrDown)
		x.chips[1].Put(false)
		x.quiet("no power, no chips", false, api.ErrDown)
		x.p.On()
		x.quiet("no chips", false, api.ErrDead)
		x.chips[1].Put(lives)
		if !x.Member(1) || !x.Up(1) {
			x.quiet("no chip 0", false, api.ErrDead)
		}
		x.chips[0].Put(true)
		x.chips[1].Put(true)
		x.back()
	}
}

// P15.2: true, if the other chip is a member and up, with nothing done.
func TestAlready(t *testing.T) {
	x := made(t, "both", 16)
	x.quiet("no nodes", true, api.OK)
	few(x)
	for range 3 {
		x.quiet("both", true, api.OK)
	}
	x.anew()
	x.quiet("opened", true, api.OK)
	// Also if the chip 0 has come back, so that it is the lead then.
	x.fences(0, change(4, "d"))
	x.back()
	if lead, ok := x.Lead(); lead != 0 || !ok {
		t.Errorf("the lead is %d, %v", lead, ok)
	}
	x.quiet("back", true, api.OK)
}

// P15.2: false, if it doesn't live, whether it is a member or not, and whatever has begun.
func TestNotThere(t *testing.T) {
	for chip := range 2 {
		x := made(t, fmt.Sprint("the chip ", chip), 16)
		few(x)
		x.chips[chip].Put(false)
		x.quiet("a member is out", false, api.OK)
		x.chips[chip].Put(true)
		x.quiet("it is in", true, api.OK)
		x.fences(chip, change(4, "d"))
		x.chips[chip].Put(false)
		x.quiet("it is no member", false, api.OK)
		x.chips[chip].Put(true)
		x.quiet("it begins", false, api.OK)
		x.chips[chip].Put(false)
		x.quiet("begun", false, api.OK)
		x.puts(chip, x.blank(16))
		x.chips[chip].Put(false)
		x.quiet("another one", false, api.OK)
		x.chips[chip].Put(true)
		x.chips[chip].Die()
		x.quiet("it has died", false, api.OK)
		x.puts(chip, x.blank(16))
		x.back()
		x.alone(fews.with(change(4, "d")))
	}
}

// P15.2: a member that isn't up, and holds what the lead holds, is Recalled.
func TestRecalled(t *testing.T) {
	for chip := range 2 {
		x := made(t, fmt.Sprint("the chip ", chip), 16)
		few(x)
		x.puts(chip, x.chips[chip])
		x.quiet("Recall", false, api.OK)
		if !x.Up(chip) || !x.Member(chip) {
			t.Errorf("%s: up %v, a member %v", x.what, x.Up(chip), x.Member(chip))
		}
		x.quiet("it is up", true, api.OK)
	}
}

// P15.2: one that was left behind is Recalled, and fenced out by that if it was a member; it holds what it held.
func TestRecalledBehind(t *testing.T) {
	for chip := range 2 {
		for _, member := range []bool{true, false} {
			x := made(t, fmt.Sprint("the chip ", chip, ", a member ", member), 16)
			few(x)
			if member {
				// A Commit that the chip 0 alone has, and the power goes.
				x.chips[chip].Put(false)
				x.commitsAlone(1-chip, change(4, "d"))
				x.chips[chip].Put(true)
				x.puts(chip, x.chips[chip])
			} else {
				x.fences(chip, change(4, "d"))
				x.puts(chip, x.chips[chip])
			}
			epoch := x.Epoch()
			x.steps("Recall", false, api.OK)
			x.views(2 - chip)
			if s := x.store(chip); s.Epoch() >= epoch || s.Epoch() == 0 || x.r.Full() {
				t.Errorf("%s: the epoch %d", x.what, s.Epoch())
			}
			x.quiet("it begins", false, api.OK)
			x.holds("it begins", chip, 1, 2, 3)
			x.steps("the node", false, api.OK)
			x.steps("Finish", false, api.OK)
			x.steps("Join", true, api.OK)
			x.alone(fews.with(change(4, "d")))
		}
	}
}

// commitsAlone lets a chip alone have a Commit, of which the mirror knows when it is opened.
func (x *scene) commitsAlone(chip int, changes ...api.Change) {
	x.t.Helper()
	s := x.store(chip)
	x.want("Commit", s.Commit(s.Seen()+1, changes...), api.OK)
}

// P15.2: where Recall answers an error, and it is no member any more, it is Renewed; that isn't the beginning yet.
func TestRenewed(t *testing.T) {
	for chip := range 2 {
		for _, member := range []bool{true, false} {
			x := made(t, fmt.Sprint("the chip ", chip, ", a member ", member), 16)
			few(x)
			if !member {
				x.fences(chip)
			}
			number := x.tie.Get().Number
			c := x.blank(18)
			x.puts(chip, c)
			x.steps("Renew", false, api.OK)
			x.views(2 - chip)
			x.empty("Renew", chip)
			if got := x.tie.Get().Number; (got > number) != member {
				t.Errorf("%s: the view %d behind %d", x.what, got, number)
			}
			s, acts := x.store(chip), c.Count()
			x.steps("it begins", false, api.OK)
			x.empty("it begins", chip)
			if x.store(chip) == s || c.Count() == acts {
				t.Errorf("%s: it begins with what there was", x.what)
			}
			for i := range 3 {
				x.steps("a node", false, api.OK)
				x.holds("a node", chip, []int{1, 2, 3}[:i+1]...)
			}
			x.steps("Finish", false, api.OK)
			x.steps("Join", true, api.OK)
			x.alone(fews)
		}
	}
}

// P15.2: errors of Recall that aren't told: Renew is, or nothing if it is still a member.
func TestRecallFails(t *testing.T) {
	// The tie knows the fence, but the lead can't note it: the chip is no member any more.
	x := made(t, "the lead can't note it", 16, noSpares)
	few(x)
	x.puts(1, x.blank(16))
	x.chips[0].Fail(true, 0)
	x.steps("ErrWorn of Recall", false, api.OK)
	x.views(1)
	x.empty("Renewed", 1)
	// There is no view above that which was seen: the chip is still a member.
	x = made(t, "no view is left", 16)
	few(x)
	x.want("Note", x.store(0).Note(api.View{Number: 1 << 63, Members: 1}), api.OK)
	x.puts(1, x.blank(16))
	x.quiet("ErrArg of Recall", false, api.OK)
	if !x.Member(1) || x.Up(1) {
		t.Errorf("a member %v, up %v", x.Member(1), x.Up(1))
	}
}

// P15.2: ErrDown of Recall, and the error of Renew, are told.
func TestRecallTells(t *testing.T) {
	x := made(t, "the power goes in the fence", 16)
	few(x)
	x.puts(1, x.blank(16))
	x.p.Cut(0, 0)
	x.steps("ErrDown of Recall", false, api.ErrDown)
	x.p.On()
	x.back()
	x.alone(fews)
	x = made(t, "the power goes in the Renew", 16)
	few(x)
	x.puts(1, x.blank(16))
	x.p.Cut(3, 0)
	x.steps("ErrDown of Renew", false, api.ErrDown)
	if x.r.Full() {
		t.Error("Full behind a Renew that broke off")
	}
	x.p.On()
	x.back()
	x.alone(fews)
	for _, bad := range [][]int{{0}, {1}, {2, 3, 4, 5, 6}} {
		x = made(t, fmt.Sprint("bad blocks ", bad), 16)
		few(x)
		x.puts(1, x.blank(16, bad...))
		for range 3 {
			x.steps("a chip that can't be formatted", false, api.ErrWorn)
			x.views(1)
		}
		if x.r.Full() || x.Up(1) {
			t.Errorf("%s: up %v, Full %v", x.what, x.Up(1), x.r.Full())
		}
		x.is("the lead alone", fews)
	}
}

// begins are chips that are up, but no members, and whether a chip goes on as it is.
func begins() []struct {
	name string
	set  func(x *scene)
	asIs bool
} {
	fence := func(x *scene) { few(x); x.fences(1, change(4, "d")) }
	return []struct {
		name string
		set  func(x *scene)
		asIs bool
	}{
		{"it was fenced out", fence, true},
		{"it was fenced out, and opened since", func(x *scene) { fence(x); x.anew() }, true},
		{"it was fenced out by an empty Commit", func(x *scene) { few(x); x.fences(1) }, true},
		{"many Commits were since", func(x *scene) { fence(x); x.commits(change(5, "e")); x.commits(gone(1)) }, true},
		{"it is of the view ahead of that", func(x *scene) {
			fence(x)
			x.want("Set", x.tie.Set(api.View{Number: 3, Members: 1, Base: x.Epoch()}), api.OK)
		}, false},
		{"it has an epoch that the lead hasn't", func(x *scene) { few(x); x.commitsAlone(1, change(4, "y")); x.fences(1, change(4, "d")) }, false},
		{"it has a record of an epoch that the lead hasn't", func(x *scene) {
			few(x)
			x.p.Cut(1, 0)
			s := x.store(1)
			x.want("Commit", s.Commit(s.Seen()+1, change(4, "y")), api.ErrDown)
			x.p.On()
			x.fences(1, change(4, "d"))
		}, false},
		{"it isn't Sound", func(x *scene) { fence(x); x.spoil(1, 2); x.anew() }, false},
		{"it holds nothing", func(x *scene) { fence(x); x.want("Renew", x.Renew(1), api.OK) }, false},
		{"it holds nothing, and has the view", func(x *scene) {
			fence(x)
			x.want("Renew", x.Renew(1), api.OK)
			x.want("Note", x.store(1).Note(api.View{Number: 1, Members: 3, Base: 1}), api.OK)
		}, false},
		{"it has the tie's view", func(x *scene) { fence(x); x.want("Note", x.store(1).Note(x.tie.Get()), api.OK) }, false},
	}
}

// P15.2: it begins with the chip as it is, if Suffix says so, without an act; else it is Renewed.
func TestBegins(t *testing.T) {
	for _, b := range begins() {
		x := made(t, b.name, 16)
		b.set(x)
		all, s, acts := read(x.Mirror), x.store(1), x.acts()
		x.steps("it begins", false, api.OK)
		if asIs := x.store(1) == s && x.acts() == acts && !x.r.Full(); asIs != b.asIs {
			t.Fatalf("%s: it goes on as it is: %v", b.name, asIs)
		}
		if !b.asIs {
			x.empty("it begins", 1)
		}
		x.back()
		x.alone(all)
	}
}

// P15.2: the nodes come one by one, by their keys; those that it holds don't.
func TestStages(t *testing.T) {
	x := made(t, "stages", 16)
	x.commits(change(0, "0"), change(7, "7"), change(255, "255"), change(100, "100"))
	x.fences(0, change(200, "200"), change(100, "another"), change(8, "8"), gone(7), change(255, "255"))
	x.quiet("it begins", false, api.OK)
	x.holds("it begins", 0, 0)
	for i, key := range []int{8, 100, 200, 255} {
		acts := x.chips[1].Count()
		x.steps("a node", false, api.OK)
		x.holds(fmt.Sprint("the node ", key), 0, []int{0, 8, 100, 200, 255}[:i+2]...)
		if x.chips[1].Count() != acts {
			t.Error("an act of the lead")
		}
	}
	if s := x.store(0); s.Last() == x.store(1).Last() {
		t.Error("it has Finished")
	}
	x.steps("Finish", false, api.OK)
	if s := x.store(0); s.Last() != x.store(1).Last() || x.Member(0) {
		t.Error("it hasn't Finished, or has Joined")
	}
	x.steps("Join", true, api.OK)
	x.views(3)
	x.alone(nodes{0: "0", 8: "8", 100: "another", 200: "200", 255: "255"})
}

// P15.2: without nodes, or without a change, it Finishes, or Joins, at once.
func TestShort(t *testing.T) {
	x := made(t, "no nodes", 16)
	x.fences(1)
	x.quiet("it begins", false, api.OK)
	x.steps("Finish", false, api.OK)
	x.steps("Join", true, api.OK)
	x.alone(nodes{})
	x = made(t, "the same epoch", 16)
	few(x)
	// The fence alone, as the Commit ends in an error.
	x.chips[1].Put(false)
	x.p.Cut(1, 0)
	x.want("Commit", x.Commit(change(4, "d")), api.ErrDown)
	x.p.On()
	x.chips[1].Put(true)
	x.anew()
	x.views(1)
	x.quiet("it begins", false, api.OK)
	x.steps("Join", true, api.OK)
	x.alone(fews)
}

// P15.2: what is Committed between the Steps is brought, too; where the chip can't become so any more it begins anew.
func TestCommitsBetween(t *testing.T) {
	x := made(t, "other nodes", 16)
	few(x)
	x.fences(1, change(4, "d"), change(5, "e"))
	x.steps("it begins", false, api.OK)
	x.steps("the node 4", false, api.OK)
	x.commits(change(4, "new"), change(6, "f"))
	x.holds("behind the Commit", 1, 1, 2, 3)
	for i := range 3 {
		x.steps("a node", false, api.OK)
		x.holds("a node", 1, []int{1, 2, 3, 4, 5, 6}[:i+4]...)
	}
	x.steps("Finish", false, api.OK)
	x.commits(change(2, "at last"))
	x.steps("one more", false, api.OK)
	x.steps("Finish", false, api.OK)
	x.steps("Join", true, api.OK)
	if x.r.Full() {
		t.Error("Full")
	}
	x.alone(nodes{1: "a", 2: "at last", 3: "c", 4: "new", 5: "e", 6: "f"})

	x = made(t, "a staged one is gone", 16)
	few(x)
	x.fences(1, change(4, "d"), change(5, "e"))
	x.steps("it begins", false, api.OK)
	x.steps("the node 4", false, api.OK)
	x.commits(gone(4))
	x.steps("the node 5", false, api.OK)
	x.steps("ErrForm of Finish", false, api.OK)
	x.empty("ErrForm of Finish", 1)
	for i := range 4 {
		x.steps("a node", false, api.OK)
		x.holds("a node", 1, []int{1, 2, 3, 5}[:i+1]...)
	}
	x.steps("Finish", false, api.OK)
	x.steps("Join", true, api.OK)
	x.alone(fews.with(change(5, "e")))
}

// P15.2: ErrNoSpace and ErrArg of Stage, ErrArg of Finish: it begins anew.
func TestBeginsAnew(t *testing.T) {
	x := made(t, "ErrNoSpace of Stage", 18)
	x.commits(filled(0, 20, "many")...)
	x.puts(1, x.blank(16))
	x.steps("Renew", false, api.OK)
	for range 2 {
		x.steps("it begins", false, api.OK)
		x.empty("it begins", 1)
		for range 19 {
			x.steps("a node", false, api.OK)
		}
	}
	x.commits(gone(19))
	x.steps("Finish", false, api.OK)
	x.steps("Join", true, api.OK)

	x = made(t, "ErrArg of Stage", 16)
	few(x)
	x.fences(1, change(4, "d"))
	x.steps("it begins", false, api.OK)
	s := x.store(1)
	x.want("Commit", s.Commit(77, change(4, "y")), api.OK)
	x.steps("ErrArg", false, api.OK)
	x.empty("ErrArg", 1)
	x.back()
	x.alone(fews.with(change(4, "d")))

	x = made(t, "ErrArg of Finish", 16)
	few(x)
	x.fences(1)
	x.steps("it begins", false, api.OK)
	x.want("Commit", x.store(1).Commit(77), api.OK)
	x.steps("ErrArg", false, api.OK)
	x.empty("ErrArg", 1)
	x.back()
	x.alone(fews)

	x = made(t, "ErrArg of Finish, of the same epoch", 16)
	few(x)
	x.fences(1)
	x.steps("it begins", false, api.OK)
	x.want("Commit", x.store(1).Commit(x.Epoch(), change(77, "more")), api.OK)
	x.steps("ErrArg", false, api.OK)
	x.empty("ErrArg", 1)
	x.back()
	x.alone(fews)
}

// P15.2: all other errors are told, and the next Step tries again.
func TestErrors(t *testing.T) {
	x := made(t, "the lead's node can't be read", 16)
	few(x)
	x.fences(1, change(4, "d"), change(5, "e"))
	x.steps("it begins", false, api.OK)
	x.spoil(0, 4)
	for range 3 {
		x.quiet("ErrCorrupt of Node", false, api.ErrCorrupt)
	}
	n, _, _ := x.store(0).Node(5)
	x.want("Repair", x.store(0).Repair(api.Node{Key: 4, Epoch: n.Epoch, Body: []byte("d")}), api.OK)
	x.back()
	x.alone(fews.with(change(4, "d"), change(5, "e")))

	x = made(t, "ErrNoSpace of Finish", 18)
	x.puts(1, x.blank(16))
	x.back()
	x.commits(filled(0, 19, "many")...)
	x.fences(1, filled(19, 2, "more")...)
	x.anew()
	x.steps("it begins", false, api.OK)
	x.steps("a node", false, api.OK)
	x.steps("a node", false, api.OK)
	for range 3 {
		x.quiet("ErrNoSpace of Finish", false, api.ErrNoSpace)
	}
	x.commits(gone(3), gone(4))
	x.steps("Finish", false, api.OK)
	x.steps("Join", true, api.OK)
	x.alone(read(x.Mirror))

	x = made(t, "the chip is worn", 16, nil, noSpares)
	few(x)
	x.fences(1, change(4, "d"))
	x.steps("it begins", false, api.OK)
	x.chips[1].Fail(true, 0)
	x.steps("ErrWorn of Stage", false, api.ErrWorn)
	x.steps("the node", false, api.OK)
	x.chips[1].Fail(true, 0)
	x.steps("ErrWorn of Finish", false, api.ErrWorn)
	x.steps("Finish", false, api.OK)
	x.chips[1].Fail(true, 0)
	x.steps("ErrWorn of Join", false, api.ErrWorn)
	x.views(1)
	x.steps("Join", true, api.OK)
	x.alone(fews.with(change(4, "d")))

	x = made(t, "no view is left", 16)
	few(x)
	x.fences(1)
	x.steps("it begins", false, api.OK)
	x.steps("Finish", false, api.OK)
	x.want("Note", x.store(1).Note(api.View{Number: 1 << 63, Members: 3}), api.OK)
	for range 3 {
		x.quiet("ErrArg of Join", false, api.ErrArg)
	}
}

// P15.2: another store than that with which it has begun is begun with anew; one with which it has begun isn't.
func TestBegunWith(t *testing.T) {
	x := made(t, "another chip", 16)
	few(x)
	x.fences(1, change(4, "d"))
	x.steps("it begins", false, api.OK)
	x.steps("the node", false, api.OK)
	x.puts(1, x.blank(16))
	x.steps("Renew", false, api.OK)
	x.steps("it begins with the other one", false, api.OK)
	x.holds("it begins with the other one", 1)
	x.back()

	x.what = "the same chip, opened anew, with what was staged"
	x.fences(1, change(5, "e"))
	x.anew()
	x.steps("it begins", false, api.OK)
	x.steps("the node", false, api.OK)
	x.puts(1, x.chips[1])
	x.quiet("Recall", false, api.OK)
	x.steps("it begins with the other store", false, api.OK)
	x.empty("it begins with the other store", 1)
	x.back()

	x.what = "the same store"
	x.fences(1, change(6, "f"))
	x.steps("the node", false, api.OK)
	x.holds("the node", 1, 1, 2, 3, 4, 5, 6)
	x.chips[1].Put(false)
	x.quiet("it is out", false, api.OK)
	x.chips[1].Put(true)
	x.steps("Finish", false, api.OK)
	x.steps("Join", true, api.OK)
	x.alone(fews.with(change(4, "d"), change(5, "e"), change(6, "f")))
}

// P15.2: the other chip may be the lead's turn later on.
func TestBothInTurn(t *testing.T) {
	x := made(t, "in turn", 16)
	few(x)
	all := fews
	for i := range 6 {
		c := change(4+i%3, fmt.Sprint("turn ", i))
		x.fences(i%2, c)
		all = all.with(c)
		x.back()
		x.is(fmt.Sprint("turn ", i), all)
	}
	x.alone(all)
}

// P15.2: what it holds isn't read, so that a node that the lead can't read any more is no bar, if it is of the same epoch.
func TestHeldIsNotRead(t *testing.T) {
	for _, staged := range []bool{false, true} {
		x := made(t, fmt.Sprint("staged: ", staged), 16)
		few(x)
		x.fences(1, change(4, "d"), change(5, "e"))
		x.steps("it begins", false, api.OK)
		key := 2
		if staged {
			x.steps("the node 4", false, api.OK)
			key = 4
		}
		x.spoil(0, key)
		x.back()
		if n, _, e := x.store(1).Node(key); e != api.OK || n.Key != key {
			t.Errorf("%s: %v, %v", x.what, n, e)
		}
		x.is("back", fews.with(change(4, "d"), change(5, "e")))
	}
	x := made(t, "of another epoch", 16)
	few(x)
	x.fences(1, change(2, "new"))
	x.steps("it begins", false, api.OK)
	x.spoil(0, 2)
	x.quiet("it isn't held", false, api.ErrCorrupt)
}

// P15.3: Full, through beginnings of both kinds.
func TestFull(t *testing.T) {
	x := made(t, "Full", 16)
	is := func(what string, full bool) {
		t.Helper()
		if x.r.Full() != full {
			t.Fatalf("%s: Full is %v", what, x.r.Full())
		}
	}
	few(x)
	is("at first", false)
	x.puts(1, x.blank(16))
	x.steps("Renew", false, api.OK)
	is("Renew", true)
	x.back()
	is("back", true)
	x.fences(0, change(4, "d"))
	is("fenced out", true)
	x.steps("as it is", false, api.OK)
	is("as it is", false)
	x.steps("the node", false, api.OK)
	x.commits(gone(4))
	is("behind a Commit", false)
	x.steps("ErrForm", false, api.OK)
	is("anew", true)
	x.back()
	is("back again", true)
	x.fences(1, change(4, "d"))
	x.anew()
	is("another Resync", false)
	x.back()
	is("back as it is", false)
	// A Renew in which the power goes, or that fails, isn't one.
	x.puts(0, x.blank(16))
	x.p.Cut(5, 0)
	x.steps("the power goes", false, api.ErrDown)
	is("the power goes", false)
	x.p.On()
	x.puts(0, x.blank(16, 0))
	x.steps("ErrWorn", false, api.ErrWorn)
	is("ErrWorn", false)
	x.puts(0, x.blank(16))
	x.back()
	is("at last", true)
}

// P15.3: Most is twice the mirror's Limit, and 8.
func TestMost(t *testing.T) {
	for blocks, most := range map[int]int{16: 46, 17: 52, 18: 58, 40: 190} {
		x := made(t, fmt.Sprint(blocks, " blocks"), blocks)
		if x.r.Most() != most || x.r.Most() != 2*x.Limit()+8 {
			t.Errorf("%s: %d", x.what, x.r.Most())
		}
	}
	x := made(t, "Most", 16)
	x.puts(1, x.blank(18))
	if x.r.Most() != 46 {
		t.Errorf("the chip 0 alone: %d", x.r.Most())
	}
	x.back()
	x.fences(0)
	if x.r.Most() != 58 {
		t.Errorf("the chip 1 alone: %d", x.r.Most())
	}
	x.chips[1].Put(false)
	if x.r.Most() != 8 {
		t.Errorf("no lead: %d", x.r.Most())
	}
}
