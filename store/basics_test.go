package store_test

import (
	"bytes"
	"fmt"
	"math"
	"strings"
	"testing"

	"keelson/api"
	"keelson/bbt"
	"keelson/chiplog"
	"keelson/disk"
	"keelson/nand"
	"keelson/node"
	"keelson/store"
)

// none tells of a store beside an error.
func none(t *testing.T, what string, s *store.Store, got, e api.Errno) {
	t.Helper()
	want(t, what, got, e)
	if s != nil {
		t.Errorf("%s: a store beside %v", what, got)
	}
}

// P11.1: Format gives a store with nothing in it, of a blank chip, of one with bad blocks, and of one that has been used.
func TestFormat(t *testing.T) {
	for _, bad := range [][]int{nil, {2}, {5, 7, 9, 15}} {
		c, s := formatted(t, 20, bad...)
		newPlain().holds(t, "blank", c, s)
		if s.Seen() != 0 || s.Lost() != len(bad) || s.Len() != 14 || s.Free() != 14 {
			t.Errorf("%v: Seen %d, Lost %d, Len %d, Free %d", bad, s.Seen(), s.Lost(), s.Len(), s.Free())
		}
		p := newPlain().commits(t, s, change(1, "a"))
		want(t, "Note", s.Note(api.View{Number: 1, Members: 3}), api.OK)
		p.note(api.View{Number: 1, Members: 3}).holds(t, "used", c, s)
		s, e := store.Format(c)
		want(t, "Format again", e, api.OK)
		newPlain().holds(t, "formatted again", c, s)
		if s.Seen() != 0 || s.Lost() != len(bad) {
			t.Errorf("formatted again: Seen %d, Lost %d", s.Seen(), s.Lost())
		}
	}
}

// P11.1: the disk that a chip has stays, with the blocks that are known to be bad; its log is made New.
func TestFormatKeepsTheDisk(t *testing.T) {
	c, s := formatted(t, 16)
	newPlain().commits(t, s, change(1, "a"))
	c.Fail(true, 0)
	newPlain().commits(t, s, change(1, "b"))
	if s.Lost() != 1 {
		t.Fatalf("Lost is %d", s.Lost())
	}
	s, e := store.Format(c)
	want(t, "Format", e, api.OK)
	if s.Lost() != 1 {
		t.Errorf("formatted again: Lost is %d", s.Lost())
	}
	newPlain().commits(t, s, change(1, "a"))
	for _, segment := range s.Segments() {
		if segment.Wear < 2 {
			t.Errorf("the wear is %d", segment.Wear)
		}
	}
}

// P11.1: the errors of Format.
func TestFormatErrors(t *testing.T) {
	for _, first := range []bool{true, false} {
		c, _ := nand.New(nand.NewPower(), 16)
		if !first {
			store.Format(c)
		}
		powerOff(c)
		s, e := store.Format(c)
		none(t, "no power", s, e, api.ErrDown)
		c.Put(false)
		s, e = store.Format(c)
		none(t, "no power, no chip", s, e, api.ErrDown)
		c.On()
		s, e = store.Format(c)
		none(t, "no chip", s, e, api.ErrDead)
		c.Put(true)
		for after := range 3 {
			c.Cut(after, 0)
			s, e = store.Format(c)
			none(t, "the power goes", s, e, api.ErrDown)
			c.On()
		}
	}
	c, _ := nand.New(nand.NewPower(), 16, 1)
	s, e := store.Format(c)
	none(t, "the block 1 is bad", s, e, api.ErrWorn)
	c, _ = nand.New(nand.NewPower(), 20, 2, 3, 4, 5, 6)
	s, e = store.Format(c)
	none(t, "five blocks are bad", s, e, api.ErrWorn)
}

// P11.1: the errors of Open, and what it gives of a disk without a store.
func TestOpenErrors(t *testing.T) {
	c, _ := nand.New(nand.NewPower(), 16)
	s, e := store.Open(c)
	none(t, "a blank chip", s, e, api.ErrNoLog)
	d, _ := disk.Format(c)
	newPlain().is(t, "a disk alone", opened(t, "a disk alone", c))
	l, _ := chiplog.New(d)
	newPlain().is(t, "a log alone", opened(t, "a log alone", c))
	l.Append(77, []byte("what no store knows"))
	l.Append(api.KindView, []byte("no view"))
	l.Append(api.KindCommit, []byte("no commit"))
	l.Append(api.KindNode, []byte("no node"))
	s = opened(t, "other records", c)
	newPlain().is(t, "other records", s)
	if s.Seen() != 0 {
		t.Errorf("other records: Seen is %d", s.Seen())
	}
	powerOff(c)
	s, e = store.Open(c)
	none(t, "no power", s, e, api.ErrDown)
	c.Die()
	s, e = store.Open(c)
	none(t, "no power, and it died", s, e, api.ErrDown)
	c.On()
	s, e = store.Open(c)
	none(t, "it died", s, e, api.ErrDead)
}

// P11.1: a store has the methods of its log, its disk, its chip and its power.
func TestPromoted(t *testing.T) {
	c, s := formatted(t, 18)
	newPlain().commits(t, s, change(1, "a"))
	if s.Count() != c.Count() || s.Len() != 12 || s.Free() != 11 || len(s.Segments()) != 1 || s.Room() != 4 || s.Off() || !s.Chip.Live() {
		t.Error("the log's methods aren't the store's")
	}
	s.Cut(0, 0)
	want(t, "Commit", s.Commit(2), api.ErrDown)
	if !c.Off() || !s.Off() {
		t.Error("the power isn't off")
	}
}

// P11.2: Limit is layer 10's Room of how many blocks the disk has.
func TestLimit(t *testing.T) {
	for blocks := 16; blocks <= 40; blocks++ {
		_, s := formatted(t, blocks)
		if is := 3*(blocks-6-3) - 2; s.Limit() != is {
			t.Errorf("%d blocks: Limit is %d, not %d", blocks, s.Limit(), is)
		}
	}
}

// P11.2, P11.3: commits, one behind the other.
func TestCommit(t *testing.T) {
	c, s := formatted(t, 16)
	p := newPlain()
	for i, x := range []struct {
		epoch   uint64
		changes []api.Change
	}{
		{1, []api.Change{change(5, "x")}},
		{2, []api.Change{gone(5), change(6, "y")}},
		{3, nil},
		{7, []api.Change{change(255, "last"), change(0, "first"), change(6, "")}},
		{8, []api.Change{gone(100), gone(255)}},
		{1 << 40, []api.Change{change(6, strings.Repeat("z", 224))}},
		{1<<40 + 1, []api.Change{gone(6), gone(0)}},
		{1<<64 - 2, []api.Change{{Key: 9}}},
		{1<<64 - 1, []api.Change{{Key: 3, Gone: true, Body: []byte("of no matter")}, change(9, "9")}},
	} {
		want(t, fmt.Sprint("Commit ", i), s.Commit(x.epoch, x.changes...), api.OK)
		p = p.commit(x.epoch, x.changes...)
		p.holds(t, fmt.Sprint("Commit ", i), c, s)
		if s.Seen() != x.epoch {
			t.Errorf("Commit %d: Seen is %d", i, s.Seen())
		}
		if o := opened(t, "Seen", c); o.Seen() != x.epoch {
			t.Errorf("Commit %d, opened: Seen is %d", i, o.Seen())
		}
	}
	want(t, "no epoch is above the greatest one", s.Commit(1<<64-1), api.ErrArg)
}

// P11.2: keys of all kinds, and bodies of all lengths.
func TestKeysAndBodies(t *testing.T) {
	c, s := formatted(t, 16)
	p := newPlain()
	for key := range 256 {
		x := api.Change{Key: key, Body: bytes.Repeat([]byte{byte(key)}, key%225)}
		p = p.commits(t, s, x, gone((key+250)%256))
	}
	p.holds(t, "all keys", c, s)
	for size := range 225 {
		p = p.commits(t, s, api.Change{Key: size % 5, Body: bytes.Repeat([]byte{byte(size)}, size)})
		p.is(t, fmt.Sprint("a body of ", size), s)
	}
	p.holds(t, "all lengths", c, s)
}

// P11.3: what Commit refuses: ErrArg ahead of ErrNoSpace; nothing has changed, and nothing was done.
func TestCommitRefused(t *testing.T) {
	c, s := formatted(t, 16)
	p := newPlain().commits(t, s, filled(19, "full")...)
	want(t, "Note", s.Note(api.View{Number: 2, Members: 1, Base: 3}), api.OK)
	p = p.note(api.View{Number: 2, Members: 1, Base: 3})
	p = p.commits(t, s)
	p.stages(t, s, 3, 9, "staged")
	more, long := change(19, "one more"), api.Change{Key: 5, Body: make([]byte, 225)}
	acts := c.Count()
	refuse := func(what string, e api.Errno, epoch uint64, changes ...api.Change) {
		t.Helper()
		want(t, what, s.Commit(epoch, changes...), e)
	}
	for _, epoch := range []uint64{0, 1, 2, 8, 9} {
		refuse(fmt.Sprint("the epoch ", epoch), api.ErrArg, epoch)
	}
	for _, key := range odd {
		refuse(fmt.Sprint("the key ", key), api.ErrArg, 10, change(1, "x"), api.Change{Key: key})
		refuse(fmt.Sprint("the key ", key, ", gone"), api.ErrArg, 10, gone(key))
	}
	refuse("a long body", api.ErrArg, 10, long)
	refuse("a long body of what is gone", api.ErrArg, 10, api.Change{Key: 5, Gone: true, Body: long.Body})
	refuse("a very long body", api.ErrArg, 10, api.Change{Key: 5, Body: make([]byte, 1<<20)})
	refuse("two of one key", api.ErrArg, 10, change(4, "a"), change(5, "b"), change(4, "a"))
	refuse("two of one key, gone", api.ErrArg, 10, gone(4), change(4, "a"))
	refuse("two of one key, both gone", api.ErrArg, 10, gone(44), gone(44))
	refuse("too many, and a key", api.ErrArg, 10, more, gone(256))
	refuse("too many, and two of one key", api.ErrArg, 10, more, more)
	refuse("too many", api.ErrNoSpace, 10, more)
	refuse("too many", api.ErrNoSpace, 10, gone(0), more, change(20, "x"))
	p.holds(t, "refused", c, s)
	if c.Count() != acts {
		t.Error("what was refused did acts")
	}
	p = p.commits(t, s, gone(0), more)
	p.holds(t, "one for another one", c, s)
}

// P11.3: errors of the disk: nothing has changed; what is staged stays, if nothing was written.
func TestCommitErrors(t *testing.T) {
	c, s := formatted(t, 16)
	p := newPlain().commits(t, s, change(1, "a"))
	p.stages(t, s, 3, 9, "staged")
	powerOff(c)
	want(t, "no power", s.Commit(10, change(1, "b")), api.ErrDown)
	want(t, "no power, refused", s.Commit(9), api.ErrArg)
	c.On()
	p.holds(t, "no power", c, s)
	c.Put(false)
	want(t, "no chip", s.Commit(10, change(1, "b")), api.ErrDead)
	c.Put(true)
	p.holds(t, "no chip", c, s)
	c.Cut(0, 0)
	want(t, "the power goes", s.Commit(10, change(1, "b")), api.ErrDown)
	c.On()
	p.opened().holds(t, "the power goes", c, s)
	p = p.commits(t, s, change(1, "b"))
	p.holds(t, "behind that", c, s)
}

// P11.2: what stands in the log: a node's record, then a commit's, and a view's, as layer 9 and the chapter have them.
func TestRecords(t *testing.T) {
	_, s := formatted(t, 16)
	p := newPlain().commits(t, s, change(7, "body"))
	v := api.View{Number: 0x0102030405060708, Members: 0x1ff, Base: 0x1112131415161718}
	want(t, "Note", s.Note(v), api.OK)
	var all []string
	for _, at := range s.Segments()[0].Records {
		kind, body, mended, e := s.Get(at)
		all = append(all, fmt.Sprint(kind, body, mended, e))
	}
	n, _ := node.Write(p.nodes[7])
	is := []string{
		fmt.Sprint(10, n, 0, api.OK),
		fmt.Sprint(11, node.WriteCommit(p.last()), 0, api.OK),
		fmt.Sprint(12, []byte{8, 7, 6, 5, 4, 3, 2, 1, 255, 24, 23, 22, 21, 20, 19, 18, 17}, 0, api.OK),
	}
	if fmt.Sprint(all) != fmt.Sprint(is) {
		t.Errorf("%v, not %v", all, is)
	}
	if len(viewsAt(s, v)) != 1 || len(nodesAt(s, 7, 1)) != 1 || len(commitsAt(s, 1)) != 1 {
		t.Error("they aren't found")
	}
}

// P11.2: View is the one with the greatest Number, of several the last one; of Members what a byte holds.
func TestView(t *testing.T) {
	c, s := formatted(t, 16)
	p := newPlain()
	for i, v := range []api.View{
		{},
		{Number: 0, Members: 3, Base: 1},
		{Number: 4, Members: 1, Base: 2},
		{Number: 3, Members: 2, Base: 9},
		{Number: 4, Members: 2, Base: 1},
		{Number: 4, Members: 2, Base: 1},
		{Number: 3, Members: 3},
		{Number: 5, Members: -1},
		{Number: 6, Members: 256},
		{Number: 7, Members: math.MinInt + 2, Base: math.MaxUint64},
		{Number: 1 << 63, Members: math.MaxInt},
		{Number: 1 << 62},
		{Number: math.MaxUint64, Members: 200},
	} {
		want(t, fmt.Sprint("Note ", i), s.Note(v), api.OK)
		p = p.note(v)
		p.holds(t, fmt.Sprint("Note ", i), c, s)
	}
	// What is noted doesn't go as room is made.
	for range 100 {
		p = p.commits(t, s, change(1, "x"))
	}
	p.holds(t, "much later", c, s)
	powerOff(c)
	want(t, "no power", s.Note(api.View{Number: math.MaxUint64}), api.ErrDown)
	c.On()
	c.Put(false)
	want(t, "no chip", s.Note(api.View{Number: math.MaxUint64}), api.ErrDead)
	p.is(t, "without the chip, Node", withChip(c, s))
}

// withChip puts a chip in.
func withChip(c *nand.Chip, s *store.Store) *store.Store {
	c.Put(true)
	return s
}

// P11.2: Seen is the greatest Epoch of a record in the log.
func TestSeen(t *testing.T) {
	c, s := formatted(t, 16)
	p := newPlain().commits(t, s, change(1, "a"))
	seen := func(what string, is uint64) {
		t.Helper()
		if o := opened(t, what, c); s.Seen() != is || o.Seen() != is {
			t.Errorf("%s: Seen is %d, and opened %d, not %d", what, s.Seen(), o.Seen(), is)
		}
	}
	seen("a commit", 1)
	p.stages(t, s, 2, 20, "b")
	seen("staged", 20)
	p.stages(t, s, 2, 10, "b")
	seen("staged anew", 20)
	want(t, "Note", s.Note(api.View{Number: 99, Base: 99}), api.OK)
	seen("a view", 20)
	c.Cut(1, 258)
	want(t, "the power goes in the commit", s.Commit(30, change(1, "b")), api.ErrDown)
	c.On()
	seen("the power goes in the commit", 30)
	c.Cut(0, 100)
	want(t, "the power goes in the node", s.Commit(40, change(1, "b")), api.ErrDown)
	c.On()
	// What is left of the other one has gone since, or not.
	if o := opened(t, "Seen", c); s.Seen() != o.Seen() || s.Seen() > 30 {
		t.Errorf("Seen is %d, and opened %d", s.Seen(), o.Seen())
	}
	s = opened(t, "Seen", c)
	want(t, "Commit", s.Commit(s.Seen()), api.ErrArg)
	want(t, "Commit", s.Commit(s.Seen()+1), api.OK)
	seen("a commit above it", s.Epoch())
}

// P11.2: what Node answers of what isn't there, of what must be mended, and of what can't be read.
func TestNode(t *testing.T) {
	c, s := formatted(t, 16)
	newPlain().commits(t, s, change(1, "a"), change(2, "b"), change(3, "c"))
	node := func(what string, key int, mended int, e api.Errno) {
		t.Helper()
		n, m, got := s.Node(key)
		if got != e || m != mended || (e == api.OK) != (len(n.Body) == 1) || e != api.OK && (n.Key != 0 || n.Epoch != 0) {
			t.Errorf("%s: %v, %d, %v, not %d, %v", what, n, m, got, mended, e)
		}
	}
	for _, key := range append([]int{0, 4, 255}, odd...) {
		node(fmt.Sprint("Node of ", key), key, 0, api.ErrNone)
	}
	node("whole", 1, 0, api.OK)
	flip(t, c, nodesAt(s, 1, 1)[0], 17)
	node("a turned bit", 1, 1, api.OK)
	flip(t, c, nodesAt(s, 2, 1)[0], 17, 18)
	node("two turned bits", 2, 0, api.ErrCorrupt)
	node("another one", 3, 0, api.OK)
	powerOff(c)
	node("no power", 3, 0, api.ErrDown)
	node("no power, none", 4, 0, api.ErrNone)
	c.Put(false)
	node("no power, no chip", 2, 0, api.ErrDown)
	c.On()
	node("no chip", 3, 0, api.ErrDead)
	node("no chip, none", 300, 0, api.ErrNone)
}

// P11.2: a page of which all bits are 1 is ErrErased, as the log has it.
func TestNodeErased(t *testing.T) {
	c, s := formatted(t, 16)
	newPlain().commits(t, s, change(1, "a"))
	at := nodesAt(s, 1, 1)[0]
	p, _ := s.Read(at.Block, at.Page)
	for bit := range 2064 {
		if p[bit/8]>>(bit%8)&1 == 0 {
			flip(t, c, at, bit)
		}
	}
	_, _, e := s.Node(1)
	want(t, "Node", e, api.ErrErased)
}

// P11.2: what stands where a node stood isn't taken for it.
func TestNodeIsntIt(t *testing.T) {
	for _, n := range []api.Node{{Key: 2, Epoch: 1}, {Key: 1, Epoch: 2}} {
		c, s := formatted(t, 16)
		newPlain().commits(t, s, change(1, "a"))
		at := nodesAt(s, 1, 1)[0]
		// Its block is laid anew, behind the store.
		x, _ := bbt.Open(c)
		block, _ := x.At(at.Block)
		var pages []api.Page
		for page := range at.Page {
			p, _ := c.Read(block, page)
			pages = append(pages, p)
		}
		d, _ := disk.Open(c)
		l, _ := chiplog.Open(d)
		body, _ := node.Write(n)
		other, e := l.Append(api.KindNode, body)
		want(t, "Append", e, api.OK)
		p, _ := l.Read(other.Block, other.Page)
		want(t, "Erase", c.Erase(block), api.OK)
		for page, p := range append(pages, p) {
			want(t, "Program", c.Program(block, page, p), api.OK)
		}
		got, bits, e := s.Node(1)
		if e != api.ErrCorrupt || bits != 0 || got.Key != 0 || got.Body != nil {
			t.Errorf("%v: %v, %d, %v", n, got, bits, e)
		}
	}
}
