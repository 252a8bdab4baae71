package chiplog_test

import (
	"fmt"
	"slices"
	"strconv"
	"strings"
	"testing"

	"keelson/api"
	"keelson/chiplog"
	"keelson/frame"
	"keelson/nand"
	"keelson/pack"
)

const (
	greatest = 8  // the wear of a block that the scenes don't use: the greatest one of all
	torn     = 99 // the record in whose Append the power ends
	noBlock  = -1
)

// scene is a call in which the power ends, and what is ahead of it and goes wrong in it.
type scene struct {
	name             string
	drops            int   // the block of the Drop; noBlock, if it is an Append
	opened           bool  // whether the log was opened since its blocks were erased
	shut             bool  // whether another block is to be begun
	turned           []int // the pages of which a bit has turned: of the last segment, or, if that is shut, of the next block
	programs, erases []int // which of the chip's fail
}

func scenes() []scene {
	return []scene{
		{name: "Append", drops: noBlock},
		{name: "Append, opened", drops: noBlock, opened: true},
		{name: "Append that fails", drops: noBlock, programs: []int{0}},
		{name: "Append that fails twice", drops: noBlock, programs: []int{0, 2}},
		{name: "Append that passes pages over", drops: noBlock, turned: []int{5, 6}},
		{name: "Append that passes all over", drops: noBlock, turned: []int{5, 6, 7}},
		{name: "begin", drops: noBlock, shut: true},
		{name: "begin, opened", drops: noBlock, shut: true, opened: true},
		{name: "begin, with turned bits", drops: noBlock, shut: true, turned: []int{1, 3}},
		{name: "begin, and the head fails", drops: noBlock, shut: true, programs: []int{0}},
		{name: "begin, and the record fails", drops: noBlock, shut: true, programs: []int{1}},
		{name: "begin, opened, and the erase fails", drops: noBlock, shut: true, opened: true, erases: []int{0}},
		{name: "begin, opened, and the wear fails", drops: noBlock, shut: true, opened: true, programs: []int{0}},
		{name: "begin, opened, and the head fails", drops: noBlock, shut: true, opened: true, programs: []int{1}},
		{name: "Drop", drops: 0},
		{name: "Drop, opened", drops: 0, opened: true},
		{name: "Drop of the last one", drops: 2},
		{name: "Drop of the last one, shut", drops: 2, shut: true},
		{name: "Drop, and the erase fails", drops: 1, erases: []int{0}},
		{name: "Drop, and the wear fails", drops: 1, programs: []int{0}},
		{name: "Drop, and both fail", drops: 1, erases: []int{0}, programs: []int{1}},
	}
}

// stage is a scene that was set: which record stands at each place.
type stage struct {
	t    *testing.T
	what string
	s    scene
	c    *nand.Chip
	l    *chiplog.Log
	sure map[api.Place]int // Append was OK, and no Drop was asked for since
	may  map[api.Place]int // a Drop was asked for, in which the power went
}

// set sets a scene on a new chip.
func (s scene) set(t *testing.T, what string) *stage {
	t.Helper()
	c, d := formatted(t, 16)
	lay(t, d, 9, wearOf(greatest-1))
	x := &stage{t: t, what: s.name + ", " + what, s: s, c: c, l: over(t, "New", d, chiplog.New), sure: map[api.Place]int{}, may: map[api.Place]int{}}
	// The blocks 0, 1 and 2 are segments, of which the last one has three pages left.
	for k, p := range fill(t, x.l, 0, 15) {
		x.sure[p] = k
	}
	if s.opened {
		x.l = opened(t, x.what, c)
	}
	if s.shut {
		x.l.Shut()
	}
	for _, page := range s.turned {
		block := 2
		if s.shut {
			block = 3
		}
		flip(t, c, block, page, bitOf(record(torn), 40, true))
	}
	return x
}

// do does the scene's call, in which the power ends.
func (x *stage) do(after, keep int) api.Errno {
	x.c.Fail(true, x.s.programs...)
	x.c.Fail(false, x.s.erases...)
	x.c.Cut(after, keep)
	defer x.c.Fail(true)
	defer x.c.Fail(false)
	if x.s.drops == noBlock {
		p, e := x.l.Append(kind(torn), body(torn))
		if e == api.OK {
			x.sure[p] = torn
		}
		return e
	}
	for p, k := range x.sure {
		if p.Block == x.s.drops {
			x.may[p] = k
			delete(x.sure, p)
		}
	}
	e := x.l.Drop(x.s.drops)
	if e == api.OK {
		clear(x.may)
	}
	return e
}

// fatal tells what went wrong.
func (x *stage) fatal(what ...any) {
	x.t.Helper()
	x.t.Fatalf("%s: %s", x.what, fmt.Sprintln(what...))
}

// number gives which record stands at a place.
func (x *stage) number(l *chiplog.Log, p api.Place) int {
	x.t.Helper()
	is, b, bits, e := l.Get(p)
	if e != api.OK || bits > 1 {
		x.fatal("Get of", p, "answers", bits, e)
	}
	k, err := strconv.Atoi(strings.TrimPrefix(string(b), "the record "))
	if err != nil || is != kind(k) || string(b) != string(body(k)) {
		x.fatal("nobody wrote what stands at", p)
	}
	return k
}

// whole tells of a log that lacks a record that is sure, has one that nobody wrote, or has them in another order.
func (x *stage) whole(l *chiplog.Log) {
	x.t.Helper()
	found, last := map[api.Place]int{}, -1
	for _, p := range records(l) {
		k := x.number(l, p)
		if k < last {
			x.fatal("the record", k, "behind", last)
		}
		found[p], last = k, k
		_, sure := x.sure[p]
		_, may := x.may[p]
		// A page that was passed over may be read as its record.
		passed := k == torn || k >= 100 && len(x.s.turned) > 0
		if !sure && !may && !passed {
			x.fatal("the record", k, "stands at", p)
		}
	}
	for p, k := range x.sure {
		if got, ok := found[p]; !ok || got != k {
			x.fatal("the record", k, "doesn't stand at", p)
		}
	}
	if l.Free()+len(l.Segments()) != l.Len() {
		x.fatal("Free:", l.Free(), "Segments:", len(l.Segments()))
	}
}

// told gives the wear that each block of a disk tells, or noBlock where it tells none.
func (x *stage) told(l *chiplog.Log) []int {
	x.t.Helper()
	var list []int
	for block := range l.Len() {
		p, e := l.Read(block, 0)
		want(x.t, x.what+": Read", e, api.OK)
		is, b, _, e := frame.Read(p)
		if e == api.OK && is == api.KindWear && len(b) == 8 {
			list = append(list, int(pack.NewReader(b).Num(8)))
		} else {
			list = append(list, noBlock)
		}
	}
	return list
}

// worn tells of a log whose blocks, when all are begun, have another wear than they told, or than the greatest one where they told none.
func (x *stage) worn(l *chiplog.Log, told []int) {
	x.t.Helper()
	for block, wear := range told {
		one := 1
		if block == 9 {
			one = greatest
		}
		if wear != noBlock && wear != one && !(block == x.s.drops && wear == one+1) {
			x.fatal("the block", block, "tells the wear", wear)
		}
	}
	for e := api.OK; e == api.OK; {
		_, e = l.Append(9)
	}
	seen := 0
	for _, s := range l.Segments() {
		wear := told[s.Block]
		if wear == noBlock {
			wear = greatest
		}
		if s.Wear != uint64(wear) {
			x.fatal("the block", s.Block, "has the wear", s.Wear, "told:", told)
		}
		seen++
	}
	if seen != l.Len() {
		x.fatal("of", l.Len(), "blocks", seen, "are segments")
	}
}

// goesOn tells of a log that can't be used as any other one.
func (x *stage) goesOn(l *chiplog.Log) {
	x.t.Helper()
	for k := 100; k < 108; k++ {
		p := add(x.t, l, k)
		if _, ok := x.sure[p]; ok {
			x.fatal("the record", k, "stands where another one does")
		}
		// What the power's end left there may be written over now.
		delete(x.may, p)
		x.sure[p] = k
	}
	x.whole(l)
	x.whole(opened(x.t, x.what, x.c))
	if x.s.drops == noBlock {
		return
	}
	if !slices.Contains(blocks(l), x.s.drops) {
		return
	}
	for p := range x.sure {
		if p.Block == x.s.drops {
			delete(x.sure, p)
		}
	}
	want(x.t, x.what+": Drop again", l.Drop(x.s.drops), api.OK)
	clear(x.may)
	x.whole(l)
	x.whole(opened(x.t, x.what, x.c))
}

// turnAll turns a bit of each page of a disk of which none has turned.
func (x *stage) turnAll(bit int) {
	x.t.Helper()
	for block := range x.l.Len() {
		for page := range api.BlockPages {
			if len(x.s.turned) == 0 || block != 2 && block != 3 {
				flip(x.t, x.c, block, page, (bit+37*page+block)%2064)
			}
		}
	}
}

// keeps are amounts of an act that may be kept: pages of an erase, bytes of a program.
var keeps = []int{-1, 0, 1, 2, 3, 4, 5, 7, 8, 9, 100, 128, 129, 252, 255, 256, 257, 258, 300}

// anywhere does something behind each cut of each scene, with each of these amounts kept.
func anywhere(t *testing.T, keeps []int, do func(x *stage)) {
	t.Helper()
	for _, s := range scenes() {
		for _, keep := range keeps {
			for after := 0; ; after++ {
				x := s.set(t, fmt.Sprintf("Cut(%d, %d)", after, keep))
				e := x.do(after, keep)
				x.c.On()
				if e != api.OK && e != api.ErrDown || after > 40 {
					x.fatal("it answers", e)
				}
				do(x)
				if e == api.OK {
					break
				}
			}
		}
	}
}

// P8.5: wherever the power goes, and whatever is kept, Open gives a log with all records, and no others; and it goes on.
func TestCutAnywhere(t *testing.T) {
	t.Parallel()
	anywhere(t, keeps, func(x *stage) {
		l := opened(t, x.what, x.c)
		x.whole(l)
		x.goesOn(l)
	})
}

// P8.5, rule 3: a log that is used on without Open has them, too.
func TestCutUsedOn(t *testing.T) {
	t.Parallel()
	anywhere(t, keeps, func(x *stage) {
		x.whole(x.l)
		x.goesOn(x.l)
	})
}

// P8.5: and so it is if a bit of each page turns then.
func TestCutTurned(t *testing.T) {
	t.Parallel()
	for _, bit := range []int{9, 2061} {
		anywhere(t, []int{0, 1, 2, 130, 256, 257, 258}, func(x *stage) {
			x.turnAll(bit)
			x.whole(opened(t, x.what, x.c))
		})
	}
}

// P8.5: a record that was torn isn't read, whichever bit of its page turns.
func TestCutTorn(t *testing.T) {
	t.Parallel()
	for _, keep := range []int{0, 130, 257} {
		for bit := range 2064 {
			x := scene{name: "torn", drops: noBlock}.set(t, fmt.Sprintf("keep %d, the bit %d", keep, bit))
			want(t, x.what, x.do(0, keep), api.ErrDown)
			x.c.On()
			flip(t, x.c, 2, 5, bit)
			l := opened(t, x.what, x.c)
			same(t, x.what, len1(records(l)), len1(make([]api.Place, 15)))
		}
	}
}

// len1 gives how long a list is, in a list.
func len1[T any](list []T) []int { return []int{len(list)} }

// P8.5: no number of a segment comes twice, whatever head records were torn, or stand though the power went in them.
func TestNumbersOnce(t *testing.T) {
	for _, keep := range []int{0, 100, 257, 258} {
		for _, opens := range []bool{true, false} {
			c, l := made(t, 16)
			fill(t, l, 0, 6)
			for range 4 {
				l.Shut()
				c.Cut(0, keep)
				refused(t, "a torn head", l, api.ErrDown)
				c.On()
				if opens {
					l = opened(t, "a torn head", c)
				}
				// Another block has less wear then, and is begun instead.
				want(t, "Drop", l.Drop(l.Segments()[0].Block), api.OK)
				fill(t, l, 10, 7)
				once(t, fmt.Sprintf("keep %d, opened %v", keep, opens), l)
				once(t, fmt.Sprintf("keep %d, opened %v, then opened", keep, opens), opened(t, "once", c))
			}
		}
	}
}

// once tells of a log of which two segments have one number.
func once(t *testing.T, what string, l *chiplog.Log) {
	t.Helper()
	s := l.Segments()
	for i := 1; i < len(s); i++ {
		if s[i-1].Seq >= s[i].Seq {
			t.Errorf("%s: Seq %d, and then %d", what, s[i-1].Seq, s[i].Seq)
		}
	}
}

// P8.5: a head that stands though the power went in it, of a log that is used on, doesn't hide what comes behind it.
func TestHeadStands(t *testing.T) {
	c, d := formatted(t, 16)
	lay(t, d, 0, wearOf(2), headOf(2), record(1))
	for block := 1; block < 10; block++ {
		lay(t, d, block, wearOf(9))
	}
	lay(t, d, 5, wearOf(7), headOf(1), record(0))
	l := opened(t, "laid", c)
	l.Shut()
	want(t, "Drop", l.Drop(5), api.OK)
	// The block 5 is begun, and its head stands.
	c.Cut(0, 258)
	refused(t, "the head", l, api.ErrDown)
	c.On()
	numbers(t, "the head", l, 9, 0)
	want(t, "Drop", l.Drop(0), api.OK)
	// Now the block 0 comes first.
	places := fill(t, l, 2, 3)
	for i, p := range places {
		if p != (api.Place{Block: 0, Page: 2 + i}) {
			t.Errorf("it stands at %v", p)
		}
	}
	o := opened(t, "opened", c)
	same(t, "opened", records(o), places)
	p := add(t, o, 5)
	same(t, "opened: the next one", []api.Place{p}, []api.Place{{Block: 0, Page: 5}})
	same(t, "opened: Records", records(o), append(places, p))
}

// P8.6: a wear that wasn't noted is the greatest one that is known; one that was is what it is.
func TestCutWear(t *testing.T) {
	t.Parallel()
	anywhere(t, keeps, func(x *stage) {
		l := opened(t, x.what, x.c)
		x.worn(l, x.told(l))
	})
}

// P8.6: between an erase and its being noted, act by act.
func TestCutWearExample(t *testing.T) {
	for _, k := range []struct {
		after, keep int
		wear        uint64
		free        bool
	}{
		{0, 0, 1, false},
		{0, 1, greatest, false},
		{0, 2, greatest, true},
		{0, 8, greatest, true},
		{1, 0, greatest, true},
		{1, 100, greatest, true},
		{1, 257, greatest, true},
		{1, 258, 2, true},
	} {
		x := scene{name: "Drop", drops: 1}.set(t, fmt.Sprintf("Cut(%d, %d)", k.after, k.keep))
		want(t, x.what, x.do(k.after, k.keep), api.ErrDown)
		x.c.On()
		l := opened(t, x.what, x.c)
		if is := !slices.Contains(blocks(l), 1); is != k.free {
			t.Errorf("%s: free: %v", x.what, is)
		}
		for range 6 * 10 {
			l.Append(9)
		}
		for _, s := range l.Segments() {
			if s.Block == 1 && s.Wear != k.wear {
				t.Errorf("%s: the wear is %d, not %d", x.what, s.Wear, k.wear)
			}
		}
	}
}

// P8.6: where none is known it is 0, and in New it is 0 for each block that tells none.
func TestWearUnknown(t *testing.T) {
	for after := range 20 {
		c, d := formatted(t, 16)
		c.Cut(after, 0)
		l, e := chiplog.New(d)
		none(t, "New", l, e, api.ErrDown)
		c.On()
		noted := after / 2
		l = opened(t, "New", c)
		if l.Free() != 10 {
			t.Errorf("New broke off: Free is %d", l.Free())
		}
		add(t, l, 0)
		same(t, "New broke off", wears(l), []uint64{uint64(min(noted, 1))})
		c.Cut(0, 0)
		c.Erase(15)
		c.On()
		l = over(t, "New again", l.Disk, chiplog.New)
		for block := range 10 {
			wear := uint64(1)
			// What was begun behind Open has its wear noted.
			if block < noted || block == 0 && noted > 0 {
				wear = 2
			}
			stands(t, fmt.Sprintf("New again, behind %d acts", after), l, block, 0, wearOf(wear))
		}
	}
}

// P8.5, P8.6: the power goes in one act after the other, and the log is opened each time.
func TestCutAgainAndAgain(t *testing.T) {
	t.Parallel()
	for _, keep := range keeps {
		x := scene{name: "again and again", drops: noBlock}.set(t, fmt.Sprintf("keep %d", keep))
		l := x.l
		for k := 15; k < 60; k++ {
			for after := 0; ; after++ {
				x.c.Cut(after, keep)
				p, e := l.Append(kind(k), body(k))
				x.c.On()
				l = opened(t, x.what, x.c)
				if e == api.OK {
					x.sure[p] = k
					break
				}
				want(t, x.what, e, api.ErrDown)
				if after > 8 {
					x.fatal("it doesn't end")
				}
				x.torn(l, k)
				// Room for what the cuts have taken.
				if l.Free() < 4 {
					x.drop(l)
				}
			}
		}
		x.torn(l, 60)
	}
}

// torn is like whole, where the last record that was appended may stand, once or more often.
func (x *stage) torn(l *chiplog.Log, last int) {
	x.t.Helper()
	before := -1
	for _, p := range records(l) {
		k := x.number(l, p)
		if k < before || k > last {
			x.fatal("the record", k, "behind", before)
		}
		before = k
	}
	for p, k := range x.sure {
		if x.number(l, p) != k {
			x.fatal("the record", k, "doesn't stand at", p)
		}
	}
}

// drop drops the first segment.
func (x *stage) drop(l *chiplog.Log) {
	x.t.Helper()
	block := l.Segments()[0].Block
	for p := range x.sure {
		if p.Block == block {
			delete(x.sure, p)
		}
	}
	want(x.t, x.what+": Drop", l.Drop(block), api.OK)
}
