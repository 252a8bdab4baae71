package store_test

import (
	"fmt"
	"math"
	"testing"

	"keelson/api"
	"keelson/store"
)

// P11.4: a store becomes as another one, node by node.
func TestStageAndFinish(t *testing.T) {
	_, from := formatted(t, 16)
	p := newPlain().commits(t, from, filled(7, "a")...)
	p = p.commits(t, from, change(3, "b"), gone(4), change(200, "c"))
	c, s := formatted(t, 17)
	q := newPlain()
	for i, key := range []int{200, 0, 3, 6, 1, 5, 2} {
		want(t, "Finish", s.Finish(from.Last()), api.ErrForm)
		n, _, e := from.Node(key)
		want(t, "Node", e, api.OK)
		if s.Holds(key, n.Epoch) {
			t.Errorf("it holds %d ahead of Stage", key)
		}
		want(t, "Stage", s.Stage(n), api.OK)
		q.staged[key] = n
		q.is(t, fmt.Sprint("staged ", i), s)
	}
	if s.Epoch() != 0 || s.Live() != (api.Live{}) {
		t.Error("what is staged is there ahead of Finish")
	}
	want(t, "Finish", s.Finish(from.Last()), api.OK)
	p.holds(t, "finished", c, s)
	p = p.commits(t, from, change(3, "d"), gone(200), change(7, "e"))
	for _, key := range []int{3, 7} {
		n, _, _ := from.Node(key)
		want(t, "Stage", s.Stage(n), api.OK)
	}
	want(t, "Finish", s.Finish(from.Last()), api.OK)
	p.holds(t, "finished again", c, s)
	want(t, "Finish again", s.Finish(from.Last()), api.ErrArg)
	p.commits(t, s, change(3, "f")).holds(t, "it goes on", c, s)
}

// P11.4: what Stage refuses; nothing has changed, and nothing was done.
func TestStageRefused(t *testing.T) {
	c, s := formatted(t, 16)
	p := newPlain().commits(t, s, change(1, "a"), change(2, "b"))
	p = p.commit(9, change(1, "c"))
	want(t, "Commit", s.Commit(9, change(1, "c")), api.OK)
	acts := c.Count()
	refuse := func(what string, e api.Errno, n api.Node) {
		t.Helper()
		want(t, what, s.Stage(n), e)
		p.is(t, what, s)
	}
	for _, key := range odd {
		refuse(fmt.Sprint("the key ", key), api.ErrArg, api.Node{Key: key, Epoch: 10})
	}
	refuse("a long body", api.ErrArg, api.Node{Key: 1, Epoch: 10, Body: make([]byte, 225)})
	refuse("the epoch 0", api.ErrArg, api.Node{Key: 7})
	refuse("an epoch below the node's", api.ErrArg, api.Node{Key: 1, Epoch: 8})
	if c.Count() != acts {
		t.Error("what was refused did acts")
	}
	for key := range s.Limit() {
		p.stages(t, s, 100+key, 10+uint64(key), "staged")
	}
	acts = c.Count()
	refuse("as many as Limit are staged", api.ErrNoSpace, api.Node{Key: 1, Epoch: 10})
	refuse("as many as Limit are staged, and the epoch 0", api.ErrArg, api.Node{Key: 1})
	if c.Count() != acts {
		t.Error("what was refused did acts")
	}
	p.stages(t, s, 105, 3, "in place of another one")
	p.holds(t, "full", c, s)
	powerOff(c)
	want(t, "no power", s.Stage(api.Node{Key: 105, Epoch: 10}), api.ErrDown)
	refuse2 := func(what string, e api.Errno) {
		t.Helper()
		want(t, what, s.Stage(api.Node{Key: 1, Epoch: 9}), e)
		want(t, what, s.Stage(api.Node{Key: 105, Epoch: 99}), e)
	}
	want(t, "no power, full", s.Stage(api.Node{Key: 1, Epoch: 9}), api.ErrNoSpace)
	c.On()
	s = opened(t, "opened", c)
	powerOff(c)
	refuse2("no power", api.ErrDown)
	c.On()
	c.Put(false)
	refuse2("no chip", api.ErrDead)
	c.Put(true)
	p.opened().holds(t, "no chip", c, s)
}

// P11.4: what is written by Stage stands in the log; the same epoch, and any above the node's one, are taken.
func TestStageWrites(t *testing.T) {
	c, s := formatted(t, 16)
	p := newPlain().commits(t, s, change(1, "a"))
	for i, n := range []api.Node{{Key: 1, Epoch: 2}, {Key: 9, Epoch: 1}, {Key: 9, Epoch: math.MaxUint64}} {
		acts := c.Count()
		p.stages(t, s, n.Key, n.Epoch, "staged")
		if c.Count() == acts || len(nodesAt(s, n.Key, n.Epoch)) != 1 {
			t.Errorf("%d isn't written", i)
		}
		p.holds(t, fmt.Sprint("staged ", i), c, s)
	}
	p.stages(t, s, 1, 1, "the node's epoch")
	p.stages(t, s, 9, 7, "a lesser one than was staged")
	p.holds(t, "staged", c, s)
	p, x := p.finish(8)
	want(t, "Finish", s.Finish(x), api.OK)
	p.holds(t, "finished", c, s)
}

// setFinish gives a store with nodes 0 to 3 of the epochs 1 and 2, of which some are staged anew, and what it is.
func setFinish(t *testing.T) (*plain, *store.Store) {
	t.Helper()
	_, s := formatted(t, 16)
	p := newPlain().commits(t, s, filled(4, "a")...)
	p = p.commits(t, s, change(2, "b"))
	p.stages(t, s, 2, 5, "c")
	p.stages(t, s, 8, 6, "d")
	return p, s
}

// P11.4: what Finish refuses, in that order.
func TestFinishRefused(t *testing.T) {
	refuse := func(what string, e api.Errno, change func(c *api.Commit)) {
		t.Helper()
		p, s := setFinish(t)
		_, c := p.finish(6)
		change(&c)
		acts := s.Count()
		want(t, what, s.Finish(c), e)
		if s.Count() != acts {
			t.Errorf("%s: it did acts", what)
		}
		p.holds(t, what, s.Chip, s)
	}
	full := api.Live{}
	for key := range 20 {
		full[key/8] |= 1 << (key % 8)
	}
	refuse("the last epoch", api.ErrArg, func(c *api.Commit) { c.Epoch = 2 })
	refuse("the epoch 0", api.ErrArg, func(c *api.Commit) { *c = api.Commit{} })
	refuse("an epoch below a staged one's", api.ErrArg, func(c *api.Commit) { c.Epoch = 5 })
	refuse("an epoch below a staged one's, and too many", api.ErrArg, func(c *api.Commit) { c.Epoch, c.Live = 5, full })
	refuse("too many", api.ErrNoSpace, func(c *api.Commit) { c.Live = full })
	refuse("another sum", api.ErrForm, func(c *api.Commit) { c.Sum++ })
	refuse("without a staged one", api.ErrForm, func(c *api.Commit) { c.Live[1] = 0 })
	refuse("with one that there isn't", api.ErrForm, func(c *api.Commit) { c.Live[31] = 1 })
	refuse("without one that there is, with its sum", api.ErrForm, func(c *api.Commit) { c.Live[0] = 7 })
	refuse("nothing", api.ErrForm, func(c *api.Commit) { c.Live = api.Live{} })
	refuse("nothing, with the sum of that", api.ErrForm, func(c *api.Commit) { c.Live, c.Sum = api.Live{}, 0 })
}

// P11.4: what Finish takes: with all nodes, without some of those that aren't staged, of the staged ones' epoch, or a later one.
func TestFinishTakes(t *testing.T) {
	for _, epoch := range []uint64{6, 7, math.MaxUint64} {
		for _, less := range [][]int{nil, {0}, {0, 1, 3}} {
			p, s := setFinish(t)
			p, c := p.finish(epoch, less...)
			want(t, "Finish", s.Finish(c), api.OK)
			p.holds(t, fmt.Sprint(epoch, less), s.Chip, s)
			if len(less) == 3 && (s.Holds(0, 1) || s.Holds(8, 5) || !s.Holds(8, 6)) {
				t.Error("Holds")
			}
		}
	}
	// Nothing is staged, and nothing there.
	_, s := formatted(t, 16)
	want(t, "of nothing", s.Finish(api.Commit{Epoch: 3}), api.OK)
	newPlain().commit(3).holds(t, "of nothing", s.Chip, s)
}

// P11.4: a record of a node above Epoch whose Key isn't staged: of a Commit that broke off, or of what was staged and forgotten.
func TestFinishStrays(t *testing.T) {
	for _, opens := range []bool{true, false} {
		c, s := formatted(t, 16)
		p := newPlain().commits(t, s, change(1, "a"), change(2, "b"))
		c.Cut(1, 0)
		want(t, "Commit", s.Commit(5, change(1, "c")), api.ErrDown)
		c.On()
		if opens {
			s = opened(t, "opened", c)
		}
		p.stages(t, s, 2, 6, "d")
		_, x := p.finish(7)
		want(t, "a stray", s.Finish(x), api.ErrForm)
		p.holds(t, "a stray", c, s)
		p.stages(t, s, 1, 4, "e")
		q, x := p.finish(7)
		want(t, "it is staged", s.Finish(x), api.OK)
		q.holds(t, "it is staged", c, s)
	}
	c, s := formatted(t, 16)
	p := newPlain().commits(t, s, change(1, "a"))
	p.stages(t, s, 2, 6, "d")
	s = opened(t, "forgotten", c)
	p = p.opened()
	p.holds(t, "forgotten", c, s)
	_, x := p.finish(7)
	want(t, "forgotten", s.Finish(x), api.ErrForm)
	p.commits(t, s, change(3, "f")).holds(t, "forgotten", c, s)
}

// P11.4: errors of the disk in Finish: what is staged stays.
func TestFinishErrors(t *testing.T) {
	p, s := setFinish(t)
	q, c := p.finish(6)
	powerOff(s.Chip)
	want(t, "no power", s.Finish(c), api.ErrDown)
	s.On()
	p.holds(t, "no power", s.Chip, s)
	s.Put(false)
	want(t, "no chip", s.Finish(c), api.ErrDead)
	s.Put(true)
	p.holds(t, "no chip", s.Chip, s)
	s.Cut(0, 100)
	want(t, "the power goes", s.Finish(c), api.ErrDown)
	s.On()
	p.holds(t, "the power goes", s.Chip, s)
	want(t, "Finish", s.Finish(c), api.OK)
	q.holds(t, "finished", s.Chip, s)
}

// P11.4: a Commit that writes forgets what is staged; one that is refused doesn't.
func TestCommitForgets(t *testing.T) {
	p, s := setFinish(t)
	want(t, "refused", s.Commit(6), api.ErrArg)
	p.is(t, "refused", s)
	p = p.commits(t, s, change(0, "x"))
	p.holds(t, "forgotten", s.Chip, s)
	if s.Epoch() != 7 || s.Holds(8, 6) || s.Holds(2, 5) || !s.Holds(2, 2) {
		t.Error("it isn't forgotten")
	}
	// The nodes that were staged aren't there later on, though their epochs are below the last one now.
	for i := range 60 {
		p = p.commits(t, s, change(20, fmt.Sprint(i)))
		p.holds(t, "later", s.Chip, s)
	}
}

// P11.4: Holds of all kinds.
func TestHolds(t *testing.T) {
	_, s := setFinish(t)
	for key := -1; key < 257; key++ {
		for epoch := range uint64(8) {
			is := key == 2 && epoch == 5 || key == 8 && epoch == 6 || epoch == 1 && (key == 0 || key == 1 || key == 3)
			if s.Holds(key, epoch) != is {
				t.Errorf("Holds(%d, %d) is %v", key, epoch, !is)
			}
		}
	}
	for _, key := range odd {
		if s.Holds(key, 0) || s.Holds(key, 1) {
			t.Errorf("Holds of %d", key)
		}
	}
	if o := opened(t, "opened", s.Chip); o.Holds(2, 5) || !o.Holds(2, 2) || o.Holds(8, 6) {
		t.Error("opened: something is staged")
	}
}

// P11.4, P11.6: a page that is passed over may be read as its record: what was staged there in vain isn't taken for what was staged instead.
func TestStagePassedOver(t *testing.T) {
	c, s := formatted(t, 16)
	p := newPlain().commits(t, s, filled(4, "a")...)
	at := api.Place{Block: s.Segments()[0].Block, Page: 7}
	n := api.Node{Key: 9, Epoch: 60, Body: []byte("passed over")}
	// A bit of it is 1, and turns ahead of that.
	flip(t, c, at, 8*2+0)
	want(t, "Stage", s.Stage(n), api.OK)
	if list := nodesAt(s, 9, 60); len(list) != 2 || list[0] != at || list[1].Block == at.Block {
		t.Fatalf("it stands at %v", list)
	}
	p.stages(t, s, 9, 50, "instead")
	p, x := p.finish(70)
	want(t, "Finish", s.Finish(x), api.OK)
	p.holds(t, "finished", c, s)
}
