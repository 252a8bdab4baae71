package store_test

import (
	"fmt"
	"testing"

	"keelson/api"
	"keelson/nand"
	"keelson/store"
)

// spoil lets all records of a node's epoch be unreadable.
func spoil(t *testing.T, c *nand.Chip, s *store.Store, key int, epoch uint64) {
	t.Helper()
	list := nodesAt(s, key, epoch)
	if len(list) == 0 {
		t.Fatalf("the node %d of the epoch %d stands nowhere", key, epoch)
	}
	for _, at := range list {
		flip(t, c, at, 100, 101)
	}
}

// reads tells of a node that isn't read as it should be.
func reads(t *testing.T, what string, s *store.Store, p *plain, lost ...int) {
	t.Helper()
	gone := map[int]bool{}
	for _, key := range lost {
		gone[key] = true
		if n, bits, e := s.Node(key); e != api.ErrCorrupt || bits != 0 || n.Epoch != 0 || n.Body != nil {
			t.Errorf("%s: Node(%d): %v, %d, %v", what, key, n, bits, e)
		}
	}
	for key, is := range p.nodes {
		if n, _, e := s.Node(key); !gone[key] && (e != api.OK || !same(n, is)) {
			t.Errorf("%s: Node(%d): %v, %v", what, key, n, e)
		}
	}
	if s.Last() != p.last() || s.Live() != p.last().Live || s.Epoch() != p.epoch {
		t.Errorf("%s: Last %v, Epoch %d", what, s.Last(), s.Epoch())
	}
}

// P11.5: a store that Open didn't give is Sound, also if a node can't be read.
func TestSoundFormatted(t *testing.T) {
	c, s := formatted(t, 16)
	p := newPlain().commits(t, s, change(1, "a"), change(2, "b"))
	spoil(t, c, s, 1, 1)
	reads(t, "spoilt", s, p, 1)
	p = p.commits(t, s, change(2, "c"))
	reads(t, "committed", s, p, 1)
	for range 100 {
		p = p.commits(t, s, change(2, "d"))
	}
	reads(t, "lost wholly", s, p, 1)
	if !s.Sound() {
		t.Error("it isn't Sound")
	}
	want(t, "Repair", s.Repair(p.nodes[1]), api.OK)
	p.holds(t, "repaired", c, s)
}

// P11.5: Open finds that a node can't be read, whether an elder one of its key can be, or not; that isn't taken for it.
func TestUnsound(t *testing.T) {
	for _, key := range []int{0, 1, 2, 3} {
		c, s := formatted(t, 16)
		p := newPlain().commits(t, s, filled(4, "a")...)
		p = p.commits(t, s, change(1, "b"), change(2, "c"))
		p = p.commits(t, s, change(2, "d"))
		p = p.commits(t, s)
		p.holds(t, "whole", c, s)
		spoil(t, c, s, key, p.nodes[key].Epoch)
		s = opened(t, "spoilt", c)
		if s.Sound() {
			t.Error("it is Sound")
		}
		reads(t, "spoilt", s, p, key)
		for other := range 4 {
			if s.Holds(other, p.nodes[other].Epoch) != (key != other) && key != other {
				t.Errorf("Holds of %d without %d", other, key)
			}
		}
		// A Commit of others doesn't make it whole.
		p = p.commits(t, s, change(9, "e"))
		reads(t, "a Commit", s, p, key)
		s = opened(t, "a Commit", c)
		if s.Sound() {
			t.Error("it is Sound behind a Commit")
		}
		reads(t, "a Commit, opened", s, p, key)
		p = p.commits(t, s, change(key, "whole again"))
		p.holds(t, "whole again", c, s)
	}
}

// P11.5: two nodes that can't be read, of which there are no elder ones.
func TestUnsoundTwice(t *testing.T) {
	c, s := formatted(t, 16)
	p := newPlain().commits(t, s, change(0, "a"), change(1, "b"))
	p = p.commits(t, s, change(2, "c"), change(3, "d"))
	spoil(t, c, s, 1, 1)
	spoil(t, c, s, 2, 2)
	s = opened(t, "spoilt", c)
	if s.Sound() {
		t.Error("it is Sound")
	}
	reads(t, "spoilt", s, p, 1, 2)
	want(t, "Repair, of an epoch that isn't known", s.Repair(p.nodes[1]), api.ErrArg)
	want(t, "Repair, of the epoch 0", s.Repair(api.Node{Key: 1}), api.ErrArg)
	if s.Holds(1, 0) || s.Holds(1, 1) {
		t.Error("Holds")
	}
	want(t, "Commit", s.Commit(3, change(1, "e")), api.OK)
	if s.Sound() || opened(t, "one", c).Sound() {
		t.Error("it is Sound with one of them")
	}
	want(t, "Repair, of what is there", s.Repair(p.nodes[3]), api.OK)
	want(t, "Commit", s.Commit(4, gone(2)), api.OK)
	if !s.Sound() || !opened(t, "both", c).Sound() {
		t.Error("it isn't Sound with both")
	}
}

// P11.5: many nodes whose elder records are read in their place: their Sum isn't the last commit's, now and behind a Commit.
func TestUnsoundElders(t *testing.T) {
	c, s := formatted(t, 16)
	p := newPlain().commits(t, s, filled(6, "a")...)
	p = p.commits(t, s, change(1, "b"), change(2, "c"), change(3, "d"))
	spoil(t, c, s, 1, 2)
	spoil(t, c, s, 2, 2)
	s = opened(t, "spoilt", c)
	if s.Sound() || s.Last() != p.last() {
		t.Error("it is Sound, or of another epoch")
	}
	want(t, "Commit", s.Commit(3, change(5, "e")), api.OK)
	for key := range 5 {
		n, _, e := s.Node(key)
		want(t, "Node", e, api.OK)
		want(t, "Repair", s.Repair(n), api.OK)
	}
	want(t, "Commit", s.Commit(4, change(1, "f"), change(2, "g")), api.OK)
	if s.Sound() || opened(t, "a Commit", c).Sound() {
		t.Error("it is Sound behind a Commit")
	}
	if _, _, e := s.Node(5); e != api.OK {
		t.Errorf("Node: %v", e)
	}
	want(t, "Stage", s.Stage(api.Node{Key: 9, Epoch: 5}), api.OK)
	q := newPlain().commit(1, filled(6, "a")...).commit(2, change(3, "d")).commit(3, change(5, "e")).commit(4, change(1, "f"), change(2, "g"))
	q.staged[9] = api.Node{Key: 9, Epoch: 5}
	q, x := q.finish(5)
	want(t, "Finish, with the sum of all", s.Finish(x), api.OK)
	q.holds(t, "finished", c, s)
}

// P11.5: what Open found missing is there again with a Repair, if the last commit's Sum tells of which epoch it was.
func TestUnsoundRepaired(t *testing.T) {
	c, s := formatted(t, 16)
	p := newPlain().commits(t, s, change(0, "a"), change(1, "b"))
	p = p.commits(t, s, change(1, "c"))
	spoil(t, c, s, 1, 2)
	s = opened(t, "spoilt", c)
	want(t, "Repair, of the elder epoch", s.Repair(api.Node{Key: 1, Epoch: 1}), api.ErrArg)
	want(t, "Repair", s.Repair(p.nodes[1]), api.OK)
	p.holds(t, "repaired", c, s)
}

// P11.4, P11.5: a store that isn't Sound becomes as another one.
func TestUnsoundFinish(t *testing.T) {
	c, s := formatted(t, 16)
	p := newPlain().commits(t, s, filled(3, "a")...)
	spoil(t, c, s, 1, 1)
	spoil(t, c, s, 2, 1)
	s = opened(t, "spoilt", c)
	q, x := p.finish(2)
	want(t, "Finish, without them", s.Finish(x), api.ErrForm)
	p.stages(t, s, 1, 2, "b")
	p.stages(t, s, 2, 1, "a of 2")
	q, x = p.finish(2)
	want(t, "Finish", s.Finish(x), api.OK)
	q.holds(t, "finished", c, s)
}

// P11.2, P11.6: two turned bits in what doesn't count any more are of no matter.
func TestGarbageSpoilt(t *testing.T) {
	c, s := formatted(t, 16)
	p := newPlain().commits(t, s, change(1, "a"), change(2, "b"))
	p = p.commits(t, s, change(1, "c"), gone(2))
	for key := 1; key < 3; key++ {
		spoil(t, c, s, key, 1)
	}
	for _, at := range commitsAt(s, 1) {
		flip(t, c, at, 5, 6)
	}
	p.holds(t, "spoilt", c, s)
	want(t, "Refresh", s.Refresh(), api.OK)
	p.commits(t, s, change(3, "d")).holds(t, "it goes on", c, s)
}

// P11.2: Node's error of each of many nodes, when pages are spoilt while the store is open, and what Repair makes of them.
func TestSpoiltWhileOpen(t *testing.T) {
	c, s := formatted(t, 18)
	p := newPlain().commits(t, s, filled(s.Limit(), "a")...)
	for key := range s.Limit() {
		if key%3 > 0 {
			p = p.commits(t, s, change(key, "b"))
		}
	}
	var lost []int
	for key := 0; key < s.Limit(); key += 2 {
		spoil(t, c, s, key, p.nodes[key].Epoch)
		lost = append(lost, key)
	}
	reads(t, "spoilt", s, p, lost...)
	p = p.commits(t, s, change(1, "c"))
	want(t, "Refresh", s.Refresh(), api.OK)
	reads(t, "refreshed", s, p, lost...)
	for i, key := range lost {
		want(t, fmt.Sprint("Repair of ", key), s.Repair(p.nodes[key]), api.OK)
		reads(t, "repaired", s, p, lost[i+1:]...)
	}
	want(t, "Refresh", s.Refresh(), api.OK)
	p.holds(t, "all repaired", c, s)
}
