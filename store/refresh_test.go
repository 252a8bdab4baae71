package store_test

import (
	"fmt"
	"math"
	"testing"

	"keelson/api"
	"keelson/bbt"
	"keelson/nand"
	"keelson/store"
)

// P11.4a: what Repair refuses, and what it does.
func TestRepair(t *testing.T) {
	c, s := formatted(t, 16)
	p := newPlain().commits(t, s, change(1, "a"), change(2, "b"))
	p = p.commits(t, s, change(2, "c"), gone(1))
	p.stages(t, s, 7, 9, "staged")
	acts := c.Count()
	for _, x := range []struct {
		n api.Node
		e api.Errno
	}{
		{api.Node{Key: 1, Epoch: 1}, api.ErrNone},
		{api.Node{Key: 7, Epoch: 9}, api.ErrNone},
		{api.Node{Key: 3, Body: make([]byte, 225)}, api.ErrNone},
		{api.Node{Key: -1}, api.ErrNone},
		{api.Node{Key: 256, Epoch: 2}, api.ErrNone},
		{api.Node{Key: math.MinInt, Epoch: 2}, api.ErrNone},
		{api.Node{Key: 2, Epoch: 2, Body: make([]byte, 225)}, api.ErrArg},
		{api.Node{Key: 2, Epoch: 1}, api.ErrArg},
		{api.Node{Key: 2, Epoch: 3}, api.ErrArg},
		{api.Node{Key: 2}, api.ErrArg},
	} {
		want(t, fmt.Sprintf("Repair of %v", x.n), s.Repair(x.n), x.e)
	}
	if c.Count() != acts {
		t.Error("what was refused did acts")
	}
	p.holds(t, "refused", c, s)

	at := nodesAt(s, 2, 2)
	flip(t, c, at[0], 50, 51)
	want(t, "Repair", s.Repair(p.nodes[2]), api.OK)
	n, bits, e := s.Node(2)
	if !same(n, p.nodes[2]) || bits != 0 || e != api.OK || c.Count() == acts || nodesAt(s, 2, 2)[0] == at[0] {
		t.Errorf("repaired: %v, %d, %v", n, bits, e)
	}
	p.holds(t, "repaired", c, s)
	p.nodes[2] = api.Node{Key: 2, Epoch: 2, Body: []byte("another body")}
	want(t, "Repair", s.Repair(p.nodes[2]), api.OK)
	p.holds(t, "repaired with another body", c, s)
	powerOff(c)
	want(t, "no power", s.Repair(p.nodes[2]), api.ErrDown)
	want(t, "no power, none", s.Repair(api.Node{Key: 1}), api.ErrNone)
	c.On()
	c.Put(false)
	want(t, "no chip", s.Repair(p.nodes[2]), api.ErrDead)
	c.Put(true)
	for i := range 80 {
		p = p.commits(t, s, change(5, fmt.Sprint(i)))
	}
	p.holds(t, "much later", c, s)
}

// lived gives a store with nodes, a view, something staged, and things that don't count any more, and what it is.
func lived(t *testing.T) (*nand.Chip, *store.Store, *plain) {
	t.Helper()
	c, s := formatted(t, 16)
	p := newPlain().commits(t, s, filled(8, "a")...)
	for i := range 5 {
		p = p.commits(t, s, change(i, "b"), change(i+1, "c"))
	}
	v := api.View{Number: 3, Members: 3, Base: 2}
	want(t, "Note", s.Note(v), api.OK)
	want(t, "Note", s.Note(api.View{Number: 2}), api.OK)
	p = p.note(v)
	p.stages(t, s, 1, 20, "staged")
	p.stages(t, s, 11, 20, "staged")
	p.stages(t, s, 11, 21, "staged anew")
	return c, s, p
}

// mends gives how many bits of a store's segments must be mended.
func mends(t *testing.T, s *store.Store) int {
	t.Helper()
	all := 0
	for _, segment := range s.Segments() {
		n, e := s.Mend(segment.Block)
		want(t, "Mend", e, api.OK)
		all += n
	}
	return all
}

// P11.4a: Refresh of a store of which no bit has turned writes nothing.
func TestRefreshNothing(t *testing.T) {
	c, s, p := lived(t)
	acts := c.Count()
	want(t, "Refresh", s.Refresh(), api.OK)
	p.holds(t, "Refresh", c, s)
	s = opened(t, "opened", c)
	want(t, "Refresh", s.Refresh(), api.OK)
	p.opened().holds(t, "Refresh, opened", c, s)
	if c.Count() != acts {
		t.Errorf("it did %d acts", c.Count()-acts)
	}
	_, s = formatted(t, 16)
	acts = s.Count()
	want(t, "Refresh of nothing", s.Refresh(), api.OK)
	if s.Count() != acts {
		t.Error("of nothing it did acts")
	}
}

// P11.4a: one turned bit in one page, of whatever stands there: behind a Refresh no bit must be mended, and all is as it was.
func TestRefreshOnePage(t *testing.T) {
	_, s, _ := lived(t)
	var pages []api.Place
	for _, segment := range s.Segments() {
		for page := range api.BlockPages {
			pages = append(pages, api.Place{Block: segment.Block, Page: page})
		}
	}
	for _, at := range pages {
		c, s, p := lived(t)
		flip(t, c, at, 3)
		before, acts := mends(t, s), c.Count()
		want(t, "Refresh", s.Refresh(), api.OK)
		if before == 1 && (mends(t, s) != 0 || c.Count() == acts) || before > 1 {
			t.Errorf("%v: ahead of the Refresh %d bits must be mended, behind it %d", at, before, mends(t, s))
		}
		p.holds(t, fmt.Sprint(at), c, s)
		_, x := p.finish(30)
		want(t, "Finish", s.Finish(x), api.OK)
	}
}

// P11.4a, P11.6: one turned bit in each page of the chip, its free blocks and its table among them, over and over.
func TestRefreshAll(t *testing.T) {
	c, s, p := lived(t)
	for round := range 12 {
		for block := range c.Blocks() {
			for page := range api.BlockPages {
				want(t, "Flip", c.Flip(block, page, (round*331+block*67+page*9)%2064), api.OK)
			}
		}
		if round%3 == 2 {
			s = opened(t, "opened", c)
			p = p.opened()
		}
		p.holds(t, fmt.Sprint("turned, round ", round), c, s)
		want(t, "Refresh", s.Refresh(), api.OK)
		if n := mends(t, s); n != 0 {
			t.Errorf("round %d: %d bits must be mended", round, n)
		}
		p.holds(t, fmt.Sprint("round ", round), c, s)
		p = p.commits(t, s, change(round%4, fmt.Sprint("round ", round)))
	}
	p.holds(t, "behind all", c, s)
}

// P11.4a: also the segments to which it writes: of free blocks, and of the last segment's pages, a bit may have turned ahead.
func TestRefreshWhatItWrites(t *testing.T) {
	c, s, p := lived(t)
	used := map[int]bool{}
	for _, segment := range s.Segments() {
		used[segment.Block] = true
	}
	for block := range s.Len() {
		for page := range api.BlockPages {
			got, _ := s.Read(block, page)
			if !used[block] || got[0] == 255 {
				flip(t, c, api.Place{Block: block, Page: page}, 9)
			}
		}
	}
	flip(t, c, s.Segments()[0].Records[0], 77)
	want(t, "Refresh", s.Refresh(), api.OK)
	if n := mends(t, s); n != 0 {
		t.Errorf("%d bits must be mended", n)
	}
	p.holds(t, "Refresh", c, s)
}

// P11.4a: the disk's table is Refreshed, too.
func TestRefreshTable(t *testing.T) {
	c, s, p := lived(t)
	// Of one block of the two a page holds the table.
	for block := range 2 {
		want(t, "Flip", c.Flip(block, 0, 12), api.OK)
	}
	before, _ := bbt.Open(c)
	want(t, "Refresh", s.Refresh(), api.OK)
	for block := range 2 {
		want(t, "Flip", c.Flip(block, 0, 200), api.OK)
	}
	after, e := bbt.Open(c)
	if e != api.OK || after.Lost() != before.Lost() {
		t.Errorf("the table: %v", e)
	}
	p.holds(t, "Refresh", c, s)
}

// seqOf gives a segment's number, or 0 if there is no such segment.
func seqOf(s *store.Store, block int) uint64 {
	for _, segment := range s.Segments() {
		if segment.Block == block {
			return segment.Seq
		}
	}
	return 0
}

// P11.4a: a segment in which something that counts can't be read stays; behind a Repair it doesn't.
func TestRefreshStays(t *testing.T) {
	c, s, p := lived(t)
	key := 7
	at := nodesAt(s, key, 1)[0]
	seq := seqOf(s, at.Block)
	flip(t, c, at, 30, 31)
	for page := range api.BlockPages {
		if page != at.Page {
			flip(t, c, api.Place{Block: at.Block, Page: page}, 30)
		}
	}
	want(t, "Refresh", s.Refresh(), api.OK)
	if n, e := s.Mend(at.Block); n != 7 || e != api.OK || seqOf(s, at.Block) != seq || mends(t, s) != 7 {
		t.Errorf("the segment is gone, or anew: %d, %v", n, e)
	}
	reads(t, "Refresh", s, p, key)
	want(t, "Repair", s.Repair(p.nodes[key]), api.OK)
	want(t, "Refresh", s.Refresh(), api.OK)
	if mends(t, s) != 0 || seqOf(s, at.Block) == seq {
		t.Error("the segment stays")
	}
	p.holds(t, "repaired", c, s)
}

// P11.4a: the last commit, and the view, are written anew if they can't be read.
func TestRefreshCommitAndView(t *testing.T) {
	for _, what := range []string{"commit", "view", "both"} {
		c, s, p := lived(t)
		if what != "view" {
			for _, at := range commitsAt(s, p.epoch) {
				flip(t, c, at, 40, 41)
			}
		}
		if what != "commit" {
			for _, at := range viewsAt(s, p.view) {
				flip(t, c, at, 40, 41)
			}
		}
		p.is(t, what, s)
		want(t, "Refresh", s.Refresh(), api.OK)
		p.holds(t, what, c, s)
	}
}

// P11.4a: ahead of the segments, so that the one in which it can't be read is no exception.
func TestRefreshCommitIsNoBar(t *testing.T) {
	for _, commit := range []bool{true, false} {
		c, s, p := lived(t)
		at := viewsAt(s, p.view)[0]
		if commit {
			at = commitsAt(s, p.epoch)[0]
		}
		seq := seqOf(s, at.Block)
		flip(t, c, at, 40, 41)
		flip(t, c, api.Place{Block: at.Block, Page: 0}, 40)
		want(t, "Refresh", s.Refresh(), api.OK)
		if seqOf(s, at.Block) == seq || mends(t, s) != 0 {
			t.Error("the segment stays")
		}
		p.holds(t, "Refresh", c, s)
	}
}

// P11.4, P11.7: and so they are when the segment that they are in is emptied to make room.
func TestRoomForCommitAndView(t *testing.T) {
	c, s := formatted(t, 16)
	p := newPlain()
	for range 4 {
		p = p.commits(t, s)
	}
	for i := range uint64(2) {
		v := api.View{Number: i}
		want(t, "Note", s.Note(v), api.OK)
		p = p.note(v)
	}
	for _, at := range append(commitsAt(s, p.epoch), viewsAt(s, p.view)...) {
		flip(t, c, at, 40, 41)
	}
	// Of each other segment three records count.
	for i := range 18 {
		p.stages(t, s, i, 30, "one of many")
		p.stages(t, s, 99, 30, "anew each time")
	}
	for i := 0; len(commitsAt(s, p.epoch)) == 0 || len(viewsAt(s, p.view)) == 0; i++ {
		p.stages(t, s, 99, 30, "anew each time")
		if i > 100 {
			t.Fatal("they aren't written anew")
		}
	}
	p.holds(t, "room was made", c, s)
}

// P11.4a: a segment whose head can't be read is written anew, as Open would find nothing in it.
func TestRefreshHead(t *testing.T) {
	c, s, p := lived(t)
	for _, segment := range s.Segments() {
		flip(t, c, api.Place{Block: segment.Block, Page: 1}, 8, 9)
	}
	want(t, "Refresh", s.Refresh(), api.OK)
	p.holds(t, "heads", c, s)
}

// P11.6: a page that is still to be written, of which a bit has turned, isn't left: what is written there as the power goes would have two turned bits with the next one.
func TestRefreshBlankPage(t *testing.T) {
	c, s := formatted(t, 16)
	p := newPlain().commits(t, s, change(1, "a"))
	last := commitsAt(s, 1)[0]
	// The bit is 1 in a commit's record, whose turn it is behind a node's.
	flip(t, c, api.Place{Block: last.Block, Page: last.Page + 2}, 0)
	want(t, "Refresh", s.Refresh(), api.OK)
	if seqOf(s, last.Block) != 0 {
		t.Error("the segment stays")
	}
	p.holds(t, "Refresh", c, s)
	acts := c.Count()
	want(t, "Refresh again", s.Refresh(), api.OK)
	if c.Count() != acts {
		t.Error("there was nothing to be done")
	}
	c.Cut(1, 258)
	want(t, "Commit", s.Commit(2, change(1, "b")), api.ErrDown)
	c.On()
	p = p.commit(2, change(1, "b"))
	turned(&stage{t: t, c: c})
	p.is(t, "the power went", opened(t, "the power went", c))
}

// P11.6: a page whose writing broke off isn't left: it would be read once enough of its bits have turned.
func TestRefreshTornPage(t *testing.T) {
	for _, keep := range []int{100, 255, 256, 257} {
		for key := range 40 {
			c, s := formatted(t, 16)
			p := newPlain().commits(t, s, change(key, "a"))
			last := commitsAt(s, 1)[0]
			torn := api.Place{Block: last.Block, Page: last.Page + 2}
			c.Cut(1, keep)
			want(t, "Commit", s.Commit(2, change(key, "b")), api.ErrDown)
			c.On()
			s = opened(t, "the power went", c)
			for _, bit := range []int{2063, 2062, 2061} {
				flip(t, c, torn, bit)
				p.is(t, fmt.Sprintf("the bit %d, keep %d", bit, keep), opened(t, "turned", c))
				want(t, "Refresh", s.Refresh(), api.OK)
			}
			p.holds(t, "Refresh", c, s)
		}
	}
}

// P11.4a: the errors of the disk.
func TestRefreshErrors(t *testing.T) {
	c, s, p := lived(t)
	for _, segment := range s.Segments() {
		flip(t, c, segment.Records[0], 30)
	}
	powerOff(c)
	want(t, "no power", s.Refresh(), api.ErrDown)
	c.On()
	c.Put(false)
	want(t, "no chip", s.Refresh(), api.ErrDead)
	c.Put(true)
	p.holds(t, "refused", c, s)
	c.Cut(4, 0)
	want(t, "the power goes", s.Refresh(), api.ErrDown)
	c.On()
	p.holds(t, "the power goes", c, s)
	want(t, "Refresh", s.Refresh(), api.OK)
	p.holds(t, "Refresh", c, s)
	if n := mends(t, s); n != 0 {
		t.Errorf("%d bits must be mended", n)
	}
}

// P11.6: a record that was written over a turned bit as the power went isn't left so.
func TestWrittenOverATurnedBit(t *testing.T) {
	c, s := formatted(t, 16)
	p := newPlain().commits(t, s, change(1, "a"))
	// The page of the next commit: a bit that is to be 1 is 0 ahead of that.
	last := commitsAt(s, 1)[0]
	x := p.commit(2, change(1, "b"))
	at := api.Place{Block: last.Block, Page: last.Page + 2}
	flip(t, c, at, 8*2+1)
	c.Cut(1, 258)
	want(t, "Commit", s.Commit(2, change(1, "b")), api.ErrDown)
	c.On()
	s = opened(t, "the power went", c)
	x.is(t, "the power went", s)
	want(t, "Note", s.Note(api.View{Number: 1}), api.OK)
	flip(t, c, at, 9)
	x.note(api.View{Number: 1}).holds(t, "one bit more", c, s)
}
