package chiplog_test

import (
	"bytes"
	"fmt"
	"testing"

	"keelson/api"
	"keelson/chiplog"
	"keelson/frame"
)

// P8.3: Get gives what stands at a place, whoever wrote it there.
func TestGet(t *testing.T) {
	c, d := formatted(t, 16)
	lay(t, d, 0, wearOf(1), headOf(1), record(0), turn(record(1), 300), turn(record(2), 300, 301), turn(blank(), 9), page(api.KindTable, []byte{7}), headOf(3))
	lay(t, d, 1, record(3), record(4), wearOf(3), page(api.KindWear), page(api.KindHead, []byte("no number")), record(5))
	l := opened(t, "laid", c)
	has(t, "a record", l, api.Place{Block: 0, Page: 2}, 0, 0)
	has(t, "a turned bit", l, api.Place{Block: 0, Page: 3}, 1, 1)
	lacks(t, "two turned bits", l, api.Place{Block: 0, Page: 4}, api.ErrCorrupt)
	lacks(t, "nearly blank", l, api.Place{Block: 0, Page: 5}, api.ErrErased)
	lacks(t, "blank", l, api.Place{Block: 1, Page: 6}, api.ErrErased)
	for _, p := range []api.Place{{Block: 0, Page: 0}, {Block: 0, Page: 1}, {Block: 0, Page: 7}, {Block: 1, Page: 2}, {Block: 1, Page: 3}, {Block: 1, Page: 4}} {
		lacks(t, "a wear or a head record", l, p, api.ErrErased)
	}
	for k, p := range map[int]api.Place{3: {Block: 1, Page: 0}, 4: {Block: 1, Page: 1}, 5: {Block: 1, Page: 5}} {
		has(t, "a free block's", l, p, k, 0)
	}
	if is, b, n, e := l.Get(api.Place{Block: 0, Page: 6}); is != api.KindTable || string(b) != "\x07" || n != 0 || e != api.OK {
		t.Errorf("a table's: %d, %q, %d, %v", is, b, n, e)
	}
}

// P8.3: the disk's errors come first, in their order.
func TestGetErrors(t *testing.T) {
	c, l := made(t, 16)
	p := add(t, l, 0)
	for _, n := range append(odd, 8, 10) {
		lacks(t, "no such page", l, api.Place{Block: 0, Page: n}, api.ErrArg)
		if n != 8 {
			lacks(t, "no such block", l, api.Place{Block: n, Page: 2}, api.ErrArg)
		}
	}
	c.Put(false)
	lacks(t, "out", l, p, api.ErrDead)
	lacks(t, "out, and no such page", l, api.Place{Block: -1}, api.ErrDead)
	powerOff(c)
	lacks(t, "without power", l, p, api.ErrDown)
	lacks(t, "without power, and no such page", l, api.Place{Block: -1}, api.ErrDown)
}

// P8.4: Drop erases a segment: it is free, and its wear is one more.
func TestDrop(t *testing.T) {
	c, l := made(t, 16)
	places := fill(t, l, 0, 20)
	numbers(t, "filled", l, 6, 4)
	for i, block := range []int{1, 0, 2} {
		before := c.Count()
		want(t, "Drop", l.Drop(block), api.OK)
		if c.Count()-before != 2 {
			t.Errorf("Drop did %d acts", c.Count()-before)
		}
		numbers(t, "dropped", l, 7+i, 4)
		stands(t, "dropped", l, block, 0, wearOf(2))
		for page := 1; page < api.BlockPages; page++ {
			stands(t, "dropped", l, block, page, blank())
			lacks(t, "dropped", l, api.Place{Block: block, Page: page}, api.ErrErased)
		}
		want(t, "Drop again", l.Drop(block), api.ErrArg)
		likeOpened(t, "dropped", c, l)
	}
	same(t, "left", blocks(l), []int{3})
	same(t, "left", records(l), places[18:])
	for k := 18; k < 20; k++ {
		has(t, "left", l, places[k], k, 0)
	}
}

// P8.4: Drop of what isn't a segment is ErrArg, whatever else is wrong; then come the disk's errors, and nothing has changed.
func TestDropErrors(t *testing.T) {
	c, l := made(t, 16)
	places := fill(t, l, 0, 8)
	refuses := func(what string, e api.Errno) {
		t.Helper()
		before := c.Count()
		for _, n := range append(odd, 2, 9, 10) {
			want(t, fmt.Sprintf("%s: Drop(%d)", what, n), l.Drop(n), api.ErrArg)
		}
		if e != api.OK {
			want(t, what, l.Drop(1), e)
		}
		if c.Count() != before {
			t.Errorf("%s: a Drop that was refused did an act", what)
		}
		numbers(t, what, l, 8, 4)
		same(t, what, blocks(l), []int{0, 1})
	}
	refuses("nothing wrong", api.OK)
	c.Put(false)
	refuses("out", api.ErrDead)
	powerOff(c)
	refuses("out, and without power", api.ErrDown)
	c.On()
	c.Put(true)
	refuses("back again", api.OK)
	likeOpened(t, "back again", c, l)
	for k, p := range append(places, add(t, l, 8)) {
		has(t, "back again", l, p, k, 0)
	}
}

// P8.4: a Drop that is ErrWorn leaves a segment, which has no page that comes next; it may be dropped again.
func TestDropWorn(t *testing.T) {
	for _, programs := range []bool{true, false} {
		what := fmt.Sprintf("programs %v", programs)
		c, l := made(t, 16, 2, 3, 4, 5)
		places := fill(t, l, 0, 8)
		c.Fail(programs, 0)
		want(t, what, l.Drop(1), api.ErrWorn)
		numbers(t, what, l, 8, 0)
		same(t, what, blocks(l), []int{0, 1})
		if !programs {
			places = append(places, add(t, l, 8))
			same(t, what, records(l), places)
		} else {
			places = append(places[:6], add(t, l, 8))
			same(t, what, records(l), places)
		}
		if p := places[len(places)-1]; p != (api.Place{Block: 2, Page: 2}) {
			t.Errorf("%s: the next one stands at %v", what, p)
		}
		want(t, what+": again", l.Drop(1), api.OK)
		same(t, what+": again", blocks(l), []int{0, 2})
		stands(t, what+": again", l, 1, 0, wearOf(2))
		likeOpened(t, what, c, l)
	}
}

// P8.4: a block moves where its erase, or its wear record, fails; the Drop is OK.
func TestDropFails(t *testing.T) {
	for _, programs := range []bool{true, false} {
		c, l := made(t, 16)
		places := fill(t, l, 0, 14)
		c.Fail(programs, 0)
		want(t, "Drop", l.Drop(1), api.OK)
		numbers(t, "Drop", l, 8, 4)
		if l.Lost() != 1 {
			t.Errorf("Lost is %d", l.Lost())
		}
		stands(t, "Drop", l, 1, 0, wearOf(2))
		same(t, "Drop", records(l), append(places[:6], places[12:]...))
		likeOpened(t, "Drop", c, l)
	}
}

// P8.4: behind a Drop of the last segment the one ahead of it is the last one, with the pages that it has.
func TestDropLast(t *testing.T) {
	c, l := made(t, 16)
	fill(t, l, 0, 15)
	want(t, "Drop", l.Drop(2), api.OK)
	numbers(t, "the last one was full", l, 8, 0)
	if p := add(t, l, 0); p != (api.Place{Block: 3, Page: 2}) {
		t.Errorf("it stands at %v", p)
	}
	l.Shut()
	add(t, l, 1)
	want(t, "Drop", l.Drop(4), api.OK)
	numbers(t, "the last one was shut", l, 7, 0)
	l = opened(t, "shut", c)
	numbers(t, "opened", l, 7, 5)
	if p := add(t, l, 2); p != (api.Place{Block: 3, Page: 3}) {
		t.Errorf("opened: it stands at %v", p)
	}
	for _, block := range []int{3, 1, 0} {
		want(t, "Drop", l.Drop(block), api.OK)
	}
	numbers(t, "none is left", l, 10, 0)
	likeOpened(t, "none is left", c, l)
	// The number of a segment that comes then is a greater one than those that there are, whichever are gone.
	fill(t, l, 3, 8)
	same(t, "anew", blocks(l), []int{5, 6})
	likeOpened(t, "anew", c, l)
}

// P8.4: a segment ahead of the last one, which was shut, is the last one behind Open and a Drop: its pages come next.
func TestDropBehindOpen(t *testing.T) {
	c, l := made(t, 16)
	fill(t, l, 0, 2)
	l.Shut()
	fill(t, l, 2, 2)
	l = opened(t, "shut", c)
	numbers(t, "opened", l, 8, 4)
	// To shut one segment leaves the others as they are.
	l.Shut()
	numbers(t, "shut", l, 8, 0)
	want(t, "Drop", l.Drop(1), api.OK)
	numbers(t, "dropped", l, 9, 4)
	if p := add(t, l, 4); p != (api.Place{Block: 0, Page: 4}) {
		t.Errorf("it stands at %v", p)
	}
	likeOpened(t, "dropped", c, l)
}

// P8.4: Room tells the pages that come next, Shut lets there be none, as long as the log isn't opened anew.
func TestRoomAndShut(t *testing.T) {
	c, l := made(t, 16)
	l.Shut()
	numbers(t, "no segment", l, 10, 0)
	for n := range 6 {
		places := fill(t, l, 0, n+1)
		numbers(t, "begun", l, 9-n, 5-n)
		before := c.Count()
		l.Shut()
		l.Shut()
		numbers(t, "shut", l, 9-n, 0)
		if c.Count() != before {
			t.Error("Shut did an act")
		}
		o := opened(t, "shut", c)
		numbers(t, "opened", o, 9-n, 5-n)
		for k, p := range places {
			has(t, "shut", l, p, k, 0)
		}
		same(t, "shut", records(l), records(o))
	}
	if p := add(t, l, 0); p != (api.Place{Block: 6, Page: 2}) {
		t.Errorf("it stands at %v", p)
	}
	numbers(t, "behind it", l, 3, 5)
	if p := add(t, opened(t, "opened", c), 0); p != (api.Place{Block: 6, Page: 3}) {
		t.Errorf("opened: it stands at %v", p)
	}
}

// P8.4: Room is known behind Open, whatever bit of the pages that come next has turned.
func TestRoomTurned(t *testing.T) {
	c, l := made(t, 16)
	fill(t, l, 0, 2)
	for at := 4; at < 8; at++ {
		flip(t, c, 0, at, 500*at%2064)
		numbers(t, "turned", opened(t, "turned", c), 9, 4)
	}
	// Records whose pages are nearly blank, and ones that can't be read, are no pages that come next.
	l = opened(t, "turned", c)
	l.Shut()
	p, e := l.Append(254, bytes.Repeat([]byte{255}, 240))
	want(t, "Append", e, api.OK)
	numbers(t, "nearly blank", opened(t, "nearly blank", c), 8, 5)
	flip(t, c, p.Block, p.Page, 1, 2, 3)
	numbers(t, "not readable", opened(t, "not readable", c), 8, 5)
}

// P8.4: Room is known anew where it turns out that pages aren't the next ones any more.
func TestRoomTorn(t *testing.T) {
	c, l := made(t, 16)
	fill(t, l, 0, 58)
	for after := range 2 {
		c.Cut(0, 0)
		refused(t, "torn", l, api.ErrDown)
		c.On()
		numbers(t, "torn", l, 0, 1-after)
	}
	l = opened(t, "torn", c)
	before := c.Count()
	refused(t, "torn, opened", l, api.ErrNoSpace)
	numbers(t, "torn, opened", l, 0, 0)
	if c.Count() != before {
		t.Error("a page that isn't the next one was written")
	}
}

// P8.4: Segments tells them in the log's order, with the records that can be read.
func TestSegments(t *testing.T) {
	c, l := made(t, 16)
	places := fill(t, l, 0, 60)
	for _, block := range []int{3, 0, 7} {
		want(t, "Drop", l.Drop(block), api.OK)
	}
	places = append(places[6:18], append(places[24:42], places[48:]...)...)
	places = append(places, fill(t, l, 60, 8)...)
	same(t, "blocks", blocks(l), []int{1, 2, 4, 5, 6, 8, 9, 0, 3})
	same(t, "Wear", wears(l), []uint64{1, 1, 1, 1, 1, 1, 1, 2, 2})
	same(t, "Records", records(l), places)
	s := l.Segments()
	for i := range s[1:] {
		if s[i].Seq >= s[i+1].Seq {
			t.Errorf("Seq: %d, %d", s[i].Seq, s[i+1].Seq)
		}
	}
	for _, p := range s[2].Records {
		flip(t, c, p.Block, p.Page, 40)
	}
	same(t, "turned", records(l), places)
	for i, p := range []api.Place{s[1].Records[0], s[3].Records[5], s[8].Records[1]} {
		flip(t, c, p.Block, p.Page, 50+i, 60+i)
	}
	places = append(places[:6], places[7:]...)
	places = append(places[:22], places[23:]...)
	places = places[:len(places)-1]
	same(t, "corrupt", records(l), places)
	likeOpened(t, "corrupt", c, l)
	// What can't be read isn't there; the segments are.
	c.Put(false)
	same(t, "out", blocks(l), []int{1, 2, 4, 5, 6, 8, 9, 0, 3})
	same(t, "out", records(l), nil)
	c.Put(true)
	same(t, "in again", records(l), places)
}

// P8.4: Mend tells how many bits of a segment's records must be mended, its wear and its head among them.
func TestMend(t *testing.T) {
	c, l := made(t, 16)
	fill(t, l, 0, 10)
	mends := func(what string, block, bits int) {
		t.Helper()
		before := c.Count()
		for _, x := range []*chiplog.Log{l, opened(t, what, c)} {
			if n, e := x.Mend(block); n != bits || e != api.OK {
				t.Errorf("%s: Mend(%d): %d, %v, not %d", what, block, n, e, bits)
			}
		}
		if c.Count() != before {
			t.Errorf("%s: Mend did an act", what)
		}
	}
	mends("as written", 0, 0)
	mends("as written", 1, 0)
	for page := range api.BlockPages {
		flip(t, c, 0, page, 2063-page)
		mends("turned", 0, page+1)
	}
	mends("another one", 1, 0)
	flip(t, c, 0, 3, 100)
	mends("one that can't be read any more", 0, 7)
	for page := 6; page < 8; page++ {
		flip(t, c, 1, page, 100)
	}
	mends("blank pages", 1, 0)
	flip(t, c, 1, 6, 300)
	mends("what isn't a record", 1, 0)
	flip(t, c, 1, 0, 2062)
	mends("the wear", 1, 1)
	flip(t, c, 1, 1, 7)
	mends("the head", 1, 2)
	want(t, "Drop", l.Drop(0), api.OK)
	fill(t, l, 10, 3)
	mends("behind it", 1, 2)
}

// P8.4: Mend of what isn't a segment is ErrArg; then come the disk's errors.
func TestMendErrors(t *testing.T) {
	c, l := made(t, 16)
	add(t, l, 0)
	flip(t, c, 0, 2, 7)
	mends := func(what string, block int, e api.Errno) {
		t.Helper()
		n, got := l.Mend(block)
		want(t, fmt.Sprintf("%s: Mend(%d)", what, block), got, e)
		if n != 0 {
			t.Errorf("%s: %d beside %v", what, n, got)
		}
	}
	for _, e := range []api.Errno{api.OK, api.ErrDead, api.ErrDown} {
		switch e {
		case api.ErrDead:
			c.Put(false)
		case api.ErrDown:
			powerOff(c)
		}
		for _, n := range append(odd, 1, 9, 10) {
			mends("no segment", n, api.ErrArg)
		}
		if e != api.OK {
			mends("a segment", 0, e)
		}
	}
}

// P8.7: what is handed in isn't changed nor kept, its spare room neither.
func TestHandedIn(t *testing.T) {
	_, l := made(t, 16)
	room := bytes.Repeat([]byte{'.'}, 40)
	one, two := append(room[:0:20], "one"...), append(room[20:20], "two"...)
	parts := append(make([][]byte, 0, 5), one, two)
	p, e := l.Append(9, parts...)
	want(t, "Append", e, api.OK)
	if string(room) != "one"+"................."+"two"+"................." || string(parts[0]) != "one" || string(parts[1]) != "two" || parts[:3][2] != nil {
		t.Errorf("changed: %q, %q", room, parts)
	}
	for i := range room {
		room[i] = 'x'
	}
	parts[0] = nil
	if _, b, _, e := l.Get(p); string(b) != "onetwo" || e != api.OK {
		t.Errorf("kept: %q, %v", b, e)
	}
}

// P8.7: what is answered is new memory: lists share none, of one answer or of two.
func TestNewMemory(t *testing.T) {
	_, l := made(t, 16)
	places := fill(t, l, 0, 15)
	_, one, _, _ := l.Get(places[0])
	for b := one[:cap(one)]; len(b) > 0; b = b[1:] {
		b[0] = 'x'
	}
	has(t, "Get", l, places[0], 0, 0)
	before := fmt.Sprint(l.Segments())
	list := l.Segments()
	for i := range list {
		whole := list[i].Records[:cap(list[i].Records)]
		for j := range whole {
			whole[j] = api.Place{Block: 100 + i, Page: j}
		}
	}
	for i := range list {
		for j, p := range list[i].Records {
			if p != (api.Place{Block: 100 + i, Page: j}) {
				t.Errorf("the records of two segments share memory: %v", p)
			}
		}
		list[i] = api.Segment{}
	}
	if got := fmt.Sprint(l.Segments()); got != before {
		t.Errorf("Segments: %s, not %s", got, before)
	}
}

// Rule 6: things over one chip share it; what each knows is its own.
func TestByItself(t *testing.T) {
	c, one := made(t, 16)
	_, two := made(t, 16)
	add(t, one, 0)
	numbers(t, "another chip's", two, 10, 0)
	three := opened(t, "the same chip's", c)
	one.Shut()
	numbers(t, "shut", one, 9, 0)
	numbers(t, "the same chip's", three, 9, 5)
	p := add(t, three, 1)
	has(t, "the same chip's", one, p, 1, 0)
}

// The records of a log are what layer 5 reads.
func TestPagesAreRecords(t *testing.T) {
	_, l := made(t, 16)
	for k := range 20 {
		p := add(t, l, k)
		got, e := l.Read(p.Block, p.Page)
		want(t, "Read", e, api.OK)
		is, b, n, e := frame.Read(got)
		if is != kind(k) || !bytes.Equal(b, body(k)) || n != 0 || e != api.OK {
			t.Errorf("the record %d: %d, %q, %d, %v", k, is, b, n, e)
		}
	}
}
