package chiplog_test

import (
	"bytes"
	"fmt"
	"testing"

	"keelson/api"
	"keelson/chiplog"
	"keelson/nand"
)

// P8.2: what Append refuses, whatever else there is, with nothing done.
func TestAppendRefuses(t *testing.T) {
	cases := []struct {
		name  string
		kind  byte
		parts [][]byte
	}{
		{"KindTable", api.KindTable, nil},
		{"KindWear", api.KindWear, nil},
		{"KindHead", api.KindHead, [][]byte{make([]byte, 8)}},
		{"the kind 0", 0, nil},
		{"the kind 255", 255, nil},
		{"241 bytes", 10, [][]byte{make([]byte, 241)}},
		{"241 bytes in parts", 10, [][]byte{make([]byte, 120), nil, make([]byte, 121)}},
		{"many bytes", 254, [][]byte{make([]byte, 70000)}},
	}
	c, l := made(t, 16)
	for _, state := range []string{"empty", "begun", "full", "dead", "down"} {
		switch state {
		case "begun":
			add(t, l, 0)
		case "full":
			fill(t, l, 1, 59)
		case "dead":
			c.Die()
		case "down":
			powerOff(c)
		}
		before, room, free := c.Count(), l.Room(), l.Free()
		for _, k := range cases {
			p, e := l.Append(k.kind, k.parts...)
			want(t, state+": "+k.name, e, api.ErrArg)
			if p != (api.Place{}) {
				t.Errorf("%s: %s: %v", state, k.name, p)
			}
		}
		numbers(t, state, l, free, room)
		if c.Count() != before {
			t.Errorf("%s: an Append that was refused did an act", state)
		}
	}
}

// P8.2: all kinds that are a log's, and all sizes, in parts or not.
func TestAppendKinds(t *testing.T) {
	_, l := made(t, 40)
	for k := 4; k <= 254; k += 2 {
		all := bytes.Repeat([]byte{byte(k)}, min(k, 240))
		half := len(all) / 2
		p, e := l.Append(byte(k), all[:half], nil, all[half:])
		want(t, fmt.Sprintf("the kind %d", k), e, api.OK)
		is, b, n, e := l.Get(p)
		if is != byte(k) || !bytes.Equal(b, all) || n != 0 || e != api.OK {
			t.Errorf("Get of the kind %d: %d, %q, %d, %v", k, is, b, n, e)
		}
	}
	p, e := l.Append(77)
	want(t, "no parts", e, api.OK)
	is, b, n, e := l.Get(p)
	if is != 77 || len(b) != 0 || n != 0 || e != api.OK {
		t.Errorf("Get of no parts: %d, %q, %d, %v", is, b, n, e)
	}
}

// P8.2: the chapter's example, and what stands on the disk then, page by page.
func TestAppendPlaces(t *testing.T) {
	c, l := made(t, 16)
	before := c.Count()
	for k := range 13 {
		p := add(t, l, k)
		if p != (api.Place{Block: k / 6, Page: 2 + k%6}) {
			t.Errorf("the record %d stands at %v", k, p)
		}
		numbers(t, fmt.Sprintf("%d records", k+1), l, 9-k/6, 5-k%6)
		stands(t, "Append", l, p.Block, p.Page, record(k))
		has(t, "Append", l, p, k, 0)
		if p.Page < 7 {
			stands(t, "ahead of it", l, p.Block, p.Page+1, blank())
		}
	}
	if c.Count()-before != 13+3 {
		t.Errorf("%d acts, not a head for each segment, and the records", c.Count()-before)
	}
	for _, s := range l.Segments() {
		stands(t, "a segment", l, s.Block, 0, wearOf(1))
		stands(t, "a segment", l, s.Block, 1, headOf(s.Seq))
	}
	s := l.Segments()
	if len(s) != 3 || s[0].Seq >= s[1].Seq || s[1].Seq >= s[2].Seq {
		t.Errorf("Segments: %v", s)
	}
}

// P8.2: the block that is begun is the one with the least wear, of several the least one.
func TestBegunBlock(t *testing.T) {
	c, d := formatted(t, 16)
	for block, wear := range []uint64{5, 3, 3, 300, 2, 1 << 40, 3, 256, 5, 4} {
		lay(t, d, block, wearOf(wear))
	}
	l := opened(t, "laid", c)
	fill(t, l, 0, 60)
	same(t, "blocks", blocks(l), []int{4, 1, 2, 6, 9, 0, 8, 7, 3, 5})
	same(t, "Wear", wears(l), []uint64{2, 3, 3, 3, 4, 5, 5, 256, 300, 1 << 40})
	refused(t, "none is free", l, api.ErrNoSpace)
	likeOpened(t, "laid", c, l)
}

// P8.2: blocks are begun by their wear also as they are dropped, so that all are used.
func TestBegunAgain(t *testing.T) {
	_, l := made(t, 16)
	for k := range 600 {
		add(t, l, k)
		if s := l.Segments(); len(s) == 3 {
			want(t, "Drop", l.Drop(s[0].Block), api.OK)
		}
	}
	l.Shut()
	fill(t, l, 0, 8*6)
	list := wears(l)
	for _, wear := range list {
		if wear+1 < list[len(list)-1] || wear > list[0]+1 {
			t.Errorf("Wear: %v", list)
		}
	}
}

// P8.2: a page that isn't the next one any more is passed over, by this log, and by one that is opened.
func TestPassesOverTorn(t *testing.T) {
	for _, keep := range []int{0, 1, 40, 257, 258} {
		for _, opens := range []bool{true, false} {
			for at := 2; at < 8; at++ {
				what := fmt.Sprintf("torn at %d, keep %d, opened %v", at, keep, opens)
				c, l := made(t, 16)
				fill(t, l, 0, at-2)
				// Where it is the first page the head is ahead of it.
				c.Cut(map[bool]int{true: 1, false: 0}[at == 2], keep)
				refused(t, what, l, api.ErrDown)
				refused(t, what+": without power", l, api.ErrDown)
				c.On()
				if opens {
					l = opened(t, what, c)
				}
				next := api.Place{Block: 0, Page: at + 1}
				if at == 7 {
					next = api.Place{Block: 1, Page: 2}
				}
				before := c.Count()
				if p := add(t, l, 99); p != next {
					t.Errorf("%s: the next one stands at %v", what, p)
				}
				if acts := c.Count() - before; at < 7 && acts != 1 {
					t.Errorf("%s: %d acts", what, acts)
				}
				has(t, what, l, next, 99, 0)
				numbers(t, what, l, 9-next.Block, 7-next.Page)
				likeOpened(t, what, c, l)
			}
		}
	}
}

// P8.2: a page whose record doesn't stand there bit by bit is passed over; one whose record does isn't.
func TestPassesOverTurned(t *testing.T) {
	one := bitOf(record(9), 20, true)
	two, zero := bitOf(record(9), one+1, true), bitOf(record(9), 20, false)
	for _, k := range []struct {
		name   string
		bits   []int
		passed bool
		reads  bool
	}{
		{"a bit that is 1", []int{one}, true, true},
		{"a bit that is 0", []int{zero}, false, true},
		{"both", []int{one, zero}, true, true},
		{"two bits that are 1", []int{one, two}, true, false},
	} {
		// A segment's first page is written when it is begun.
		for at := 3; at < 8; at++ {
			what := fmt.Sprintf("%s, of the page %d", k.name, at)
			c, l := made(t, 16)
			places := fill(t, l, 0, at-2)
			flip(t, c, 0, at, k.bits...)
			p := add(t, l, 9)
			places = append(places, p)
			switch here := (api.Place{Block: 0, Page: at}); {
			case !k.passed:
				if p != here {
					t.Errorf("%s: it stands at %v", what, p)
				}
			case at == 7 && p != api.Place{Block: 1, Page: 2} || at < 7 && p != api.Place{Block: 0, Page: at + 1}:
				t.Errorf("%s: it stands at %v", what, p)
			case k.reads:
				has(t, what+": passed over", l, here, 9, 1)
				places = append(places[:at-2], here, p)
			default:
				lacks(t, what+": passed over", l, here, api.ErrCorrupt)
			}
			has(t, what, l, p, 9, 0)
			same(t, what+": Records", records(l), places)
			likeOpened(t, what, c, l)
		}
	}
}

// P8.2: several pages are passed over in one Append, also a segment's last ones.
func TestPassesOverMany(t *testing.T) {
	c, l := made(t, 16)
	fill(t, l, 0, 2)
	bit := bitOf(record(9), 500, true)
	for at := 4; at < 8; at++ {
		flip(t, c, 0, at, bit)
	}
	if p := add(t, l, 9); p != (api.Place{Block: 1, Page: 2}) {
		t.Errorf("it stands at %v", p)
	}
	if n := len(records(l)); n != 2+4+1 {
		t.Errorf("%d records", n)
	}
	likeOpened(t, "passed over", c, l)
	// Where no block is free no page is left either.
	fill(t, l, 10, 5+7*6+2)
	for at := 4; at < 8; at++ {
		flip(t, c, 9, at, 0)
	}
	numbers(t, "nearly full", l, 0, 4)
	p, e := l.Append(5, []byte{1})
	want(t, "nearly full", e, api.ErrNoSpace)
	if p != (api.Place{}) {
		t.Errorf("nearly full: %v", p)
	}
	numbers(t, "full", l, 0, 0)
}

// actsToBegin tells how many acts an Append does that begins a block.
func actsToBegin(t *testing.T, c *nand.Chip, l *chiplog.Log) int {
	t.Helper()
	l.Shut()
	before := c.Count()
	add(t, l, 0)
	return c.Count() - before
}

// P8.2: a block that wasn't erased since the log was opened is erased anew, with its wear as it was.
func TestErasedAnew(t *testing.T) {
	const clean, anew = 2, 4
	c, l := made(t, 16)
	same(t, "New", []int{actsToBegin(t, c, l)}, []int{clean})
	l = opened(t, "opened", c)
	same(t, "opened", []int{actsToBegin(t, c, l)}, []int{anew})
	stands(t, "anew", l, 1, 0, wearOf(1))
	same(t, "anew: Wear", wears(l), []uint64{1, 1})
	want(t, "Drop", l.Drop(0), api.OK)
	for block := 2; block < 10; block++ {
		same(t, "opened", []int{actsToBegin(t, c, l)}, []int{anew})
	}
	same(t, "dropped since", []int{actsToBegin(t, c, l)}, []int{clean})
	same(t, "blocks", blocks(l), []int{1, 2, 3, 4, 5, 6, 7, 8, 9, 0})
	same(t, "Wear", wears(l), []uint64{1, 1, 1, 1, 1, 1, 1, 1, 1, 2})
	l = opened(t, "opened again", c)
	want(t, "Drop", l.Drop(5), api.OK)
	l = opened(t, "opened behind Drop", c)
	same(t, "dropped ahead", []int{actsToBegin(t, c, l)}, []int{anew})
	stands(t, "dropped ahead", l, 5, 0, wearOf(2))
	likeOpened(t, "at last", c, l)
}

// P8.2: whatever stands in a free block is gone when it is begun.
func TestErasedAnewStale(t *testing.T) {
	c, d := formatted(t, 16)
	for block := range 10 {
		lay(t, d, block, [][]api.Page{
			{wearOf(4), blank(), record(1), record(2)},
			{wearOf(4), {}, record(3)},
			{wearOf(4), record(4), record(5), blank(), record(6)},
			{wearOf(4), blank(), blank(), blank(), blank(), blank(), blank(), record(7)},
			{},
		}[block%5]...)
	}
	l := opened(t, "stale", c)
	numbers(t, "stale", l, 10, 0)
	for block := range 10 {
		at := add(t, l, 50+block)
		same(t, "Records", records(l)[block:], []api.Place{at})
		stands(t, "begun", l, at.Block, 0, wearOf(4))
		for page := 3; page < 8; page++ {
			stands(t, "begun", l, at.Block, page, blank())
		}
		likeOpened(t, "begun", c, l)
		l.Shut()
	}
}

// P8.2: a block is erased anew, too, if a page of it but the first one isn't all blank.
func TestErasedAnewTurned(t *testing.T) {
	for page := range api.BlockPages {
		for _, bit := range []int{0, 700, 2063} {
			what := fmt.Sprintf("the bit %d of the page %d", bit, page)
			c, l := made(t, 16)
			flip(t, c, 0, page, bit)
			acts := 4
			if page == 0 {
				acts = 2
			}
			same(t, what, []int{actsToBegin(t, c, l)}, []int{acts})
			if page == 0 {
				stands(t, what, l, 0, 0, turn(wearOf(1), bit))
			} else {
				stands(t, what, l, 0, 0, wearOf(1))
			}
			stands(t, what, l, 0, 2, record(0))
			same(t, what+": Wear", wears(l), []uint64{1})
			for page := 3; page < 8; page++ {
				stands(t, what, l, 0, page, blank())
			}
			likeOpened(t, what, c, l)
		}
	}
}

// P8.2: ErrNoSpace, if none is free, with nothing done; behind a Drop there is space again.
func TestNoSpace(t *testing.T) {
	c, l := made(t, 16)
	fill(t, l, 0, 60)
	before := c.Count()
	for range 3 {
		refused(t, "full", l, api.ErrNoSpace)
	}
	numbers(t, "full", l, 0, 0)
	if c.Count() != before {
		t.Error("an Append without space did an act")
	}
	refused(t, "full, opened", opened(t, "full", c), api.ErrNoSpace)
	want(t, "Drop", l.Drop(7), api.OK)
	if p := add(t, l, 60); p != (api.Place{Block: 7, Page: 2}) {
		t.Errorf("it stands at %v", p)
	}
	fill(t, l, 61, 5)
	refused(t, "full again", l, api.ErrNoSpace)
	same(t, "blocks", blocks(l), []int{0, 1, 2, 3, 4, 5, 6, 8, 9, 7})
}

// P8.2: what fails moves the block, and the records stand where Append said.
func TestAppendFails(t *testing.T) {
	for which := range 12 {
		what := fmt.Sprintf("the program %d fails", which)
		c, l := made(t, 16)
		first := fill(t, l, 0, 3)
		c.Fail(true, which)
		places := append(first, fill(t, l, 3, 9)...)
		for _, x := range []*chiplog.Log{l, opened(t, what, c)} {
			for k, p := range places {
				if p != (api.Place{Block: k / 6, Page: 2 + k%6}) {
					t.Errorf("%s: the record %d stands at %v", what, k, p)
				}
				has(t, what, x, p, k, 0)
			}
			same(t, what, records(x), places)
		}
		likeOpened(t, what, c, l)
	}
}

// P8.2, P8.4: an Append that is ErrWorn has used its page; Room tells that, also behind Open; and it goes on.
func TestAppendWorn(t *testing.T) {
	c, l := made(t, 16, 2, 3, 4, 5)
	places := fill(t, l, 0, 2)
	c.Fail(true, 0)
	refused(t, "no spare is left", l, api.ErrWorn)
	numbers(t, "worn", l, 9, 3)
	likeOpened(t, "worn", c, l)
	places = append(places, add(t, l, 2))
	if p := places[2]; p != (api.Place{Block: 0, Page: 5}) {
		t.Errorf("it stands at %v", p)
	}
	same(t, "worn", records(l), places)
	// A head that isn't written leaves the block free, and it is cleared anew.
	l.Shut()
	c.Fail(true, 0)
	refused(t, "no head", l, api.ErrWorn)
	numbers(t, "no head", l, 9, 0)
	same(t, "no head", []int{actsToBegin(t, c, l)}, []int{4})
	same(t, "no head", blocks(l), []int{0, 1})
	// So does one that can't be erased.
	l = opened(t, "worn", c)
	l.Shut()
	c.Fail(false, 0)
	refused(t, "not erased", l, api.ErrWorn)
	numbers(t, "not erased", l, 8, 0)
	c.Fail(true, 0)
	refused(t, "no wear", l, api.ErrWorn)
	numbers(t, "no wear", l, 8, 0)
	add(t, l, 3)
	same(t, "at last", blocks(l), []int{0, 1, 2})
	same(t, "at last", wears(l), []uint64{1, 1, 1})
	likeOpened(t, "at last", c, l)
}

// P8.2: without power, or without the chip, Append answers so, and nothing has changed.
func TestAppendErrors(t *testing.T) {
	for _, records := range []int{0, 3, 6} {
		c, l := made(t, 16)
		fill(t, l, 0, records)
		free, room, before := l.Free(), l.Room(), c.Count()
		c.Put(false)
		refused(t, "out", l, api.ErrDead)
		powerOff(c)
		refused(t, "out, and without power", l, api.ErrDown)
		c.Put(true)
		refused(t, "without power", l, api.ErrDown)
		c.On()
		numbers(t, "back again", l, free, room)
		if c.Count() != before {
			t.Errorf("%d acts", c.Count()-before)
		}
		if p := add(t, l, records); p != (api.Place{Block: records / 6, Page: 2 + records%6}) {
			t.Errorf("behind %d records: %v", records, p)
		}
	}
}
