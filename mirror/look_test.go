package mirror_test

import (
	"bytes"
	"fmt"
	"testing"

	"keelson/api"
	"keelson/nand"
	"keelson/node"
)

// state is what a mirror's calls tell, but its nodes.
type state struct {
	epoch        uint64
	live         api.Live
	limit        int
	member, up   [2]bool
	lives, store [2]bool
	seen         [2]api.Chip
	lead         int
	leads, off   bool
	view         api.View
}

// state gives it, and tells of what hangs together, but doesn't.
func (x *scene) state() state {
	x.t.Helper()
	m := x.m
	s := state{epoch: m.Epoch(), live: m.Live(), limit: m.Limit(), off: m.Off(), view: m.View()}
	s.lead, s.leads = m.Lead()
	for chip := range 2 {
		s.member[chip], s.up[chip], s.lives[chip], s.seen[chip] = m.Member(chip), m.Up(chip), m.Lives(chip), m.Seen(chip)
		one, ok := m.Store(chip)
		s.store[chip] = ok
		if (one != nil) != ok || ok != s.up[chip] {
			x.t.Errorf("%s: Store(%d): %v, %v", x.what, chip, one, ok)
		}
	}
	for _, chip := range odd() {
		one, ok := m.Store(chip)
		if m.Member(chip) || m.Up(chip) || m.Lives(chip) || m.Seen(chip) != (api.Chip{}) || one != nil || ok {
			x.t.Errorf("%s: there is a chip %d", x.what, chip)
		}
	}
	return s
}

// plainState gives what should be told of a mirror with these members, of which some are up, by the chapter's words.
func (x *scene) plainState(members, up int) state {
	x.t.Helper()
	s := state{view: x.tie.Get(), off: x.p.Off()}
	for chip, c := range x.chips {
		s.member[chip], s.lives[chip] = members>>chip&1 != 0, c.Live()
		if up>>chip&1 == 0 {
			continue
		}
		one := opens(x.t, x.what, c)
		v, _ := one.View()
		s.up[chip], s.store[chip] = true, true
		s.seen[chip] = api.Chip{Here: true, Store: true, Sound: one.Sound(), Last: one.Last(), Seen: one.Seen(), View: v}
		if !s.member[chip] {
			continue
		}
		if !s.leads {
			s.epoch, s.live, s.lead, s.leads, s.limit = one.Epoch(), one.Live(), chip, true, one.Limit()
		}
		s.limit = min(s.limit, one.Limit())
	}
	return s
}

// tells tells of a mirror that isn't as it should be.
func (x *scene) tells(what string, members, up int) {
	x.t.Helper()
	if got, is := x.state(), x.plainState(members, up); got != is {
		x.t.Errorf("%s: %s: %+v, not %+v", x.what, what, got, is)
	}
}

// P14.2: what is told of mirrors in many states.
func TestState(t *testing.T) {
	x := blank(t, "of two sizes", 19, 17, []int{4})
	x.make()
	x.tells("made", 3, 3)
	x.commits(change(1, "a"), change(200, "b"))
	x.tells("behind a Commit", 3, 3)
	x.chips[0].Put(false)
	x.tells("without the chip 0", 3, 2)
	x.chips[1].Put(false)
	x.tells("without any", 3, 0)
	x.chips[0].Put(true)
	x.tells("without the chip 1", 3, 1)
	x.commits(change(2, "c"))
	x.tells("fenced", 1, 1)
	x.chips[1].Put(true)
	x.tells("the chip 1 comes back", 1, 3)
	x.chips[0].Put(false)
	x.tells("it is there alone", 1, 2)
	x.chips[0].Put(true)
	x.joins(1)
	x.tells("it has joined", 3, 3)
	x.fences(0)
	x.tells("the chip 0 is fenced", 2, 3)
	x.chips[1].Die()
	x.tells("the chip 1 has died", 2, 1)
}

// P14.2: Limit is the least one of the members that are up.
func TestLimit(t *testing.T) {
	x := blank(t, "of two sizes", 16, 40)
	x.make()
	for _, c := range []struct {
		do    func()
		limit int
	}{
		{func() {}, 19},
		{func() { x.chips[1].Put(false) }, 19},
		{func() { x.chips[1].Put(true); x.chips[0].Put(false) }, 91},
		{func() { x.chips[1].Put(false) }, 0},
		{func() { x.chips[0].Put(true); x.chips[1].Put(true) }, 19},
		{func() { x.fences(0) }, 91},
	} {
		c.do()
		if x.m.Limit() != c.limit {
			t.Errorf("Limit is %d, not %d", x.m.Limit(), c.limit)
		}
	}
}

// P14.2: without power all is told as ahead of that, but Off.
func TestStateOff(t *testing.T) {
	x := made(t, "off")
	x.commits(change(1, "a"))
	x.fences(1, change(2, "b"))
	is := x.plainState(1, 3)
	is.off = true
	x.off()
	if got := x.state(); got != is {
		t.Errorf("%+v, not %+v", got, is)
	}
	x.p.On()
	x.tells("on again", 1, 3)
}

// P14.2: Off is of the chips' power.
func TestOff(t *testing.T) {
	x := made(t, "off")
	x.p.Cut(0, 0)
	if x.m.Off() {
		t.Error("it is off ahead of the act")
	}
	want(t, "Commit", x.m.Commit(), api.ErrDown)
	if !x.m.Off() {
		t.Error("it isn't off")
	}
	x.p.On()
	if x.m.Off() {
		t.Error("it is off")
	}
}

// P14.2: the lead is the first member that is up, and gives the epoch and what is live.
func TestLead(t *testing.T) {
	x := unequal(t, "used on")
	is := func(lead int, epoch uint64, keys ...int) {
		t.Helper()
		got, ok := x.m.Lead()
		if got != lead || !ok || x.m.Epoch() != epoch || x.m.Live() != node.With(api.Live{}, keys...) {
			t.Errorf("the lead is %d, %v, of the epoch %d", got, ok, x.m.Epoch())
		}
	}
	is(0, 3, 1, 3)
	x.chips[0].Put(false)
	is(1, 2, 1, 2)
	x.chips[0].Put(true)
	is(0, 3, 1, 3)
	x.open()
	x.chips[0].Put(false)
	if lead, ok := x.m.Lead(); lead != 0 || ok || x.m.Epoch() != 0 || x.m.Live() != (api.Live{}) || x.m.Limit() != 0 {
		t.Errorf("the lead is %d, %v", lead, ok)
	}
}

// tellsNode tells of a node that isn't as it should be.
func (x *scene) tellsNode(what string, key int, body string, e api.Errno) {
	x.t.Helper()
	if got, is := x.m.Node(key); string(got) != body || is != e || e != api.OK && got != nil {
		x.t.Errorf("%s: %s: Node(%d): %q, %v, not %q, %v", x.what, what, key, got, is, body, e)
	}
}

// P14.3: nodes, and keys of which there is none.
func TestNode(t *testing.T) {
	x := made(t, "nodes")
	x.commits(change(0, "first"), change(255, "last"), change(7, ""), change(8, "gone"))
	x.commits(gone(8), change(0, string(bytes.Repeat([]byte{9}, 224))))
	x.tellsNode("both", 0, string(bytes.Repeat([]byte{9}, 224)), api.OK)
	x.tellsNode("both", 255, "last", api.OK)
	x.tellsNode("both", 7, "", api.OK)
	for _, key := range append(oddKeys(), 8, 9, 254) {
		x.tellsNode("both", key, "", api.ErrNone)
	}
}

// P14.3: the errors: ErrDown, ErrDead, ErrCorrupt, in this order.
func TestNodeErrors(t *testing.T) {
	x := made(t, "errors")
	x.commits(change(1, "a"), change(2, "b"))
	x.spoil(0, 1, 2)
	x.spoil(1, 1, 2)
	x.tellsNode("both are spoilt", 1, "", api.ErrCorrupt)
	x.tellsNode("others aren't", 2, "b", api.OK)
	x.tellsNode("others aren't there", 3, "", api.ErrNone)
	x.chips[0].Put(false)
	x.tellsNode("the chip 1 alone", 1, "", api.ErrCorrupt)
	x.tellsNode("the chip 1 alone", 2, "b", api.OK)
	x.chips[1].Put(false)
	x.tellsNode("no chip", 1, "", api.ErrDead)
	x.tellsNode("no chip", 3, "", api.ErrDead)
	x.tellsNode("no chip", -1, "", api.ErrDead)
	x.off()
	x.tellsNode("no power", 1, "", api.ErrDown)
	x.chips[0].Put(true)
	x.tellsNode("no power", 2, "", api.ErrDown)
	x.tellsNode("no power", 256, "", api.ErrDown)
}

// P14.3: it is ErrCorrupt, whatever else the chips tell of it.
func TestNodeFaded(t *testing.T) {
	x := made(t, "faded")
	x.commits(change(1, "a"), change(2, "b"))
	x.fade(0, 1, 2)
	x.tellsNode("on the chip 0", 1, "a", api.OK)
	x.fade(1, 1, 2)
	x.tellsNode("on both", 1, "", api.ErrCorrupt)
	x.fade(1, 2, 2)
	x.tellsNode("on the chip 1", 2, "b", api.OK)
}

// P14.3: what one chip can't read the other one tells, whichever it is.
func TestNodeOfTheOther(t *testing.T) {
	x := made(t, "spoilt")
	x.commits(change(1, "a"), change(2, "b"), change(3, "c"))
	x.spoil(0, 1, 2)
	x.spoil(1, 2, 2)
	x.tellsAll(nodes{1: "a", 2: "b", 3: "c"})
	x.chips[1].Put(false)
	x.tellsNode("the chip 0 alone", 1, "", api.ErrCorrupt)
	x.tellsNode("the chip 0 alone", 2, "b", api.OK)
	x.chips[1].Put(true)
	x.chips[0].Put(false)
	x.tellsNode("the chip 1 alone", 1, "a", api.OK)
	x.tellsNode("the chip 1 alone", 2, "", api.ErrCorrupt)
}

// tellsAll tells of a mirror that has other nodes.
func (x *scene) tellsAll(all nodes) {
	x.t.Helper()
	for key := range 256 {
		body, ok := all[key]
		e := api.ErrNone
		if ok {
			e = api.OK
		}
		x.tellsNode("all", key, body, e)
	}
}

// P14.3: a chip that isn't a member isn't asked, whatever it holds, also if it alone is up.
func TestNodeOfMembersAlone(t *testing.T) {
	x := made(t, "fenced")
	x.commits(change(1, "a"), change(2, "b"))
	x.fences(0, change(1, "c"), gone(2))
	x.tellsAll(nodes{1: "c"})
	x.spoil(1, 1, 3)
	x.tellsNode("spoilt", 1, "", api.ErrCorrupt)
	x.chips[1].Put(false)
	x.tellsNode("the chip 0 alone", 1, "", api.ErrDead)
}

// P14.3: ErrNone of the first member that is up is the answer, as is its node, whatever the other one has.
func TestNodeOfTheFirst(t *testing.T) {
	x := made(t, "another one on the chip 1")
	x.commits(change(1, "a"))
	want(t, "Commit", x.store(1).Commit(9, change(1, "other"), change(2, "more")), api.OK)
	x.tellsAll(nodes{1: "a"})
	x.chips[0].Put(false)
	x.tellsAll(nodes{1: "other", 2: "more"})
}

// P14.2, P14.3: none of these calls does an act.
func TestLooksDoNoAct(t *testing.T) {
	x := made(t, "acts")
	x.commits(change(1, "a"))
	x.fences(1, change(2, "b"))
	c, _ := nand.New(x.p, 16)
	x.m.Replace(1, c)
	acts := x.acts()
	x.state()
	ofMirror(t, x.what, x.m)
	if x.acts() != acts || c.Count() != 0 {
		t.Error("an act was done")
	}
}

// P14.2: the Store is the one that the mirror uses.
func TestStoreIsTheMirrors(t *testing.T) {
	x := made(t, "stores")
	s, u := x.store(0), x.store(1)
	x.commits(change(1, "a"))
	if s != x.store(0) || u != x.store(1) || s == u || s.Epoch() != 2 || u.Epoch() != 2 {
		t.Error("it is another one")
	}
	x.chips[1].Put(false)
	if one, ok := x.m.Store(1); one != nil || ok {
		t.Error("the store of a chip that isn't up")
	}
	x.chips[1].Put(true)
	if u != x.store(1) {
		t.Error("it is another one behind being taken out")
	}
	for key := range 3 {
		n, _, e := u.Node(key)
		if (e == api.OK) != (key == 1) || string(n.Body) != map[bool]string{true: "a"}[key == 1] {
			t.Error(fmt.Sprint(key, n, e))
		}
	}
}
