package chiplog_test

import (
	"fmt"
	"math"
	"slices"
	"testing"

	"keelson/api"
	"keelson/bbt"
	"keelson/chiplog"
	"keelson/disk"
	"keelson/frame"
	"keelson/nand"
	"keelson/pack"
)

// kind gives the kind of the k-th record.
func kind(k int) byte { return byte(4 + k%251) }

// body gives the body of the k-th record, which is another one for each k.
func body(k int) []byte { return fmt.Appendf(nil, "the record %d", k) }

// page gives a record's page.
func page(kind byte, parts ...[]byte) api.Page {
	p, e := frame.Write(kind, parts...)
	if e != api.OK {
		panic(e)
	}
	return p
}

// record gives the page of the k-th record.
func record(k int) api.Page { return page(kind(k), body(k)) }

// wearOf gives the page that tells a wear.
func wearOf(wear uint64) api.Page { return page(api.KindWear, pack.Num(8, wear)) }

// headOf gives the page that tells a segment's number.
func headOf(number uint64) api.Page { return page(api.KindHead, pack.Num(8, number)) }

// blank gives a page that holds nothing.
func blank() api.Page {
	var p api.Page
	for i := range p {
		p[i] = 255
	}
	return p
}

// turn gives a page of which bits are turned.
func turn(p api.Page, bits ...int) api.Page {
	for _, bit := range bits {
		p[bit/8] ^= 1 << (bit % 8)
	}
	return p
}

// bitOf gives, of a page, the least bit from a place on that is 1, or that is 0.
func bitOf(p api.Page, from int, one bool) int {
	for bit := from; ; bit++ {
		if (p[bit/8]>>(bit%8)&1 == 1) == one {
			return bit
		}
	}
}

// every gives the numbers from 0 on.
func every(n int) []int {
	list := make([]int, n)
	for i := range list {
		list[i] = i
	}
	return list
}

// odd are numbers that no page and no block has.
var odd = []int{math.MinInt, math.MinInt32, -1, 40, 255, 256, math.MaxInt32, math.MaxInt}

// want tells of an error that isn't the one wanted.
func want(t *testing.T, what string, got, e api.Errno) {
	t.Helper()
	if got != e {
		t.Errorf("%s: %v, not %v", what, got, e)
	}
}

// formatted gives a blank chip with power of its own, and the disk that it was made.
func formatted(t *testing.T, blocks int, bad ...int) (*nand.Chip, *disk.Disk) {
	t.Helper()
	c, _ := nand.New(nand.NewPower(), blocks, bad...)
	d, e := disk.Format(c)
	if e != api.OK {
		t.Fatalf("Format: %v", e)
	}
	return c, d
}

// made gives a chip, and the empty log over it.
func made(t *testing.T, blocks int, bad ...int) (*nand.Chip, *chiplog.Log) {
	t.Helper()
	c, d := formatted(t, blocks, bad...)
	return c, over(t, "New", d, chiplog.New)
}

// over gives the log that is made, or opened, over a disk.
func over(t *testing.T, what string, d *disk.Disk, make func(*disk.Disk) (*chiplog.Log, api.Errno)) *chiplog.Log {
	t.Helper()
	l, e := make(d)
	if l == nil || e != api.OK {
		t.Fatalf("%s: %v", what, e)
	}
	return l
}

// opened gives the log that a chip holds.
func opened(t *testing.T, what string, c *nand.Chip) *chiplog.Log {
	t.Helper()
	d, e := disk.Open(c)
	if d == nil || e != api.OK {
		t.Fatalf("%s: the disk: %v", what, e)
	}
	before := c.Count()
	l := over(t, what+": Open", d, chiplog.Open)
	if c.Count() != before {
		t.Errorf("%s: Open did an act", what)
	}
	return l
}

// none tells of a log beside an error.
func none(t *testing.T, what string, l *chiplog.Log, got, e api.Errno) {
	t.Helper()
	want(t, what, got, e)
	if l != nil {
		t.Errorf("%s: a log beside %v", what, got)
	}
}

// lay lets a block of a disk hold these pages.
func lay(t *testing.T, d *disk.Disk, block int, pages ...api.Page) {
	t.Helper()
	want(t, "Erase", d.Erase(block), api.OK)
	for i, p := range pages {
		want(t, "Program", d.Program(block, i, p), api.OK)
	}
}

// flip turns bits of a page of a disk.
func flip(t *testing.T, c *nand.Chip, block, page int, bits ...int) {
	t.Helper()
	x, e := bbt.Open(c)
	at, ok := x.At(block)
	if !ok || e != api.OK {
		t.Fatalf("no block %d: %v", block, e)
	}
	for _, bit := range bits {
		want(t, "Flip", c.Flip(at, page, bit), api.OK)
	}
}

// powerOff lets a chip's power end, with no act of the chip.
func powerOff(c *nand.Chip) {
	other, _ := nand.New(c.Power, 16)
	c.Cut(0, 0)
	other.Erase(0)
}

// stands tells of a page of a log's disk that isn't the one wanted.
func stands(t *testing.T, what string, l *chiplog.Log, block, page int, p api.Page) {
	t.Helper()
	got, e := l.Read(block, page)
	if got != p || e != api.OK {
		t.Errorf("%s: the page %d, %d: %v, or another page", what, block, page, e)
	}
}

// add appends the k-th record, and gives where it stands.
func add(t *testing.T, l *chiplog.Log, k int) api.Place {
	t.Helper()
	p, e := l.Append(kind(k), body(k))
	if e != api.OK {
		t.Fatalf("Append of the record %d: %v", k, e)
	}
	return p
}

// fill appends records from the k-th one on, and gives where they stand.
func fill(t *testing.T, l *chiplog.Log, k, n int) []api.Place {
	t.Helper()
	var list []api.Place
	for i := range n {
		list = append(list, add(t, l, k+i))
	}
	return list
}

// refused tells of an Append that isn't refused so, or answers anything beside that.
func refused(t *testing.T, what string, l *chiplog.Log, e api.Errno) {
	t.Helper()
	p, got := l.Append(10, []byte("refused"))
	want(t, what, got, e)
	if p != (api.Place{}) {
		t.Errorf("%s: %v beside %v", what, p, got)
	}
}

// has tells of a place at which the k-th record doesn't stand, with so many bits mended.
func has(t *testing.T, what string, l *chiplog.Log, p api.Place, k, bits int) {
	t.Helper()
	is, b, n, e := l.Get(p)
	if is != kind(k) || string(b) != string(body(k)) || n != bits || e != api.OK {
		t.Errorf("%s: Get(%v): %d, %q, %d, %v, not the record %d", what, p, is, b, n, e, k)
	}
}

// lacks tells of a place for which Get doesn't answer an error.
func lacks(t *testing.T, what string, l *chiplog.Log, p api.Place, e api.Errno) {
	t.Helper()
	is, b, n, got := l.Get(p)
	want(t, fmt.Sprintf("%s: Get(%v)", what, p), got, e)
	if is != 0 || len(b) > 0 || n != 0 {
		t.Errorf("%s: Get(%v): %d, %q, %d beside %v", what, p, is, b, n, got)
	}
}

// numbers tells of a log whose Free and Room aren't those wanted.
func numbers(t *testing.T, what string, l *chiplog.Log, free, room int) {
	t.Helper()
	if l.Free() != free || l.Room() != room {
		t.Errorf("%s: Free %d, Room %d, not %d, %d", what, l.Free(), l.Room(), free, room)
	}
}

// blocks gives the blocks of a log's segments.
func blocks(l *chiplog.Log) []int {
	var list []int
	for _, s := range l.Segments() {
		list = append(list, s.Block)
	}
	return list
}

// wears gives the wear of each of a log's segments.
func wears(l *chiplog.Log) []uint64 {
	var list []uint64
	for _, s := range l.Segments() {
		list = append(list, s.Wear)
	}
	return list
}

// records gives the places of all records of a log.
func records(l *chiplog.Log) []api.Place {
	var list []api.Place
	for _, s := range l.Segments() {
		list = append(list, s.Records...)
	}
	return list
}

// same tells of two lists that aren't one.
func same[T comparable](t *testing.T, what string, got, list []T) {
	t.Helper()
	if !slices.Equal(got, list) {
		t.Errorf("%s: %v, not %v", what, got, list)
	}
}

// likeOpened tells of a log that isn't as the one that Open gives.
func likeOpened(t *testing.T, what string, c *nand.Chip, l *chiplog.Log) {
	t.Helper()
	o := opened(t, what, c)
	one, two := fmt.Sprint(l.Segments(), l.Free(), l.Room()), fmt.Sprint(o.Segments(), o.Free(), o.Room())
	if one != two {
		t.Errorf("%s: %s, opened: %s", what, one, two)
	}
}

// P8.1: New makes all blocks free, whatever stood there: a wear record, and nothing else.
func TestNew(t *testing.T) {
	for _, bad := range [][]int{nil, {2}, {5, 9, 13}} {
		for n := api.MinBlocks; n <= api.MaxBlocks; n += 3 {
			c, d := formatted(t, n, bad...)
			for block := range d.Len() {
				lay(t, d, block, [][]api.Page{nil, {record(1)}, {record(1), headOf(7), record(2)}, {{}, {}, {}}}[block%4]...)
			}
			before := c.Count()
			l := over(t, "New", d, chiplog.New)
			if c.Count()-before != 2*d.Len() {
				t.Errorf("New of %d blocks did %d acts", d.Len(), c.Count()-before)
			}
			numbers(t, "New", l, n-6, 0)
			same(t, "New: Segments", blocks(l), nil)
			for block := range l.Len() {
				stands(t, "New", l, block, 0, wearOf(1))
				for page := 1; page < api.BlockPages; page++ {
					stands(t, "New", l, block, page, blank())
				}
			}
			likeOpened(t, "New", c, l)
		}
	}
}

// P8.1: behind New the wear is the one that a block had, where that is known, and one more.
func TestNewWear(t *testing.T) {
	short, long := page(api.KindWear, pack.Num(7, 5)), page(api.KindWear, pack.Num(8, 5), []byte{0})
	cases := []struct {
		name   string
		first  api.Page
		second api.Page
		wear   uint64
	}{
		{"7", wearOf(7), blank(), 8},
		{"0", wearOf(0), blank(), 1},
		{"258, of a segment", wearOf(258), headOf(4), 259},
		{"many", wearOf(1 << 40), blank(), 1<<40 + 1},
		{"a turned bit", turn(wearOf(9), 77), blank(), 10},
		{"two turned bits", turn(wearOf(9), 77, 78), headOf(9), 1},
		{"none", blank(), blank(), 1},
		{"another kind", page(10, pack.Num(8, 6)), wearOf(5), 1},
		{"7 bytes", short, blank(), 1},
		{"9 bytes", long, blank(), 1},
		{"a page behind it", record(0), wearOf(6), 1},
	}
	_, d := formatted(t, 20)
	for block, k := range cases {
		lay(t, d, block, k.first, k.second)
	}
	l := over(t, "New", d, chiplog.New)
	for block, k := range cases {
		stands(t, k.name, l, block, 0, wearOf(k.wear))
	}
}

// P8.1, P8.4: each New makes the wear one more, and that is what a segment tells.
func TestNewAgain(t *testing.T) {
	c, l := made(t, 16)
	for wear := uint64(1); wear < 5; wear++ {
		numbers(t, "New", l, 10, 0)
		fill(t, l, 0, 20)
		same(t, "New again: Wear", wears(l), []uint64{wear, wear, wear, wear})
		l = over(t, "New again", opened(t, "New again", c).Disk, chiplog.New)
	}
}

// P8.1: New answers the disk's errors, and nothing beside them.
func TestNewErrors(t *testing.T) {
	for after := 0; ; after++ {
		c, d := formatted(t, 16)
		c.Cut(after, 1)
		l, e := chiplog.New(d)
		if e == api.OK {
			if after != 2*d.Len() {
				t.Errorf("New did %d acts", after)
			}
			break
		}
		none(t, fmt.Sprintf("Cut(%d)", after), l, e, api.ErrDown)
		c.Die()
		l, e = chiplog.New(d)
		none(t, "without power, and dead", l, e, api.ErrDown)
		c.On()
		l, e = chiplog.New(d)
		none(t, "dead", l, e, api.ErrDead)
	}
	for _, programs := range []bool{true, false} {
		c, d := formatted(t, 16)
		c.Fail(programs, every(100)...)
		l, e := chiplog.New(d)
		none(t, "no act goes well", l, e, api.ErrWorn)
	}
}

// P8.1: Open answers the disk's errors, and nothing beside them.
func TestOpenErrors(t *testing.T) {
	c, l := made(t, 16)
	fill(t, l, 0, 8)
	d := l.Disk
	c.Put(false)
	l, e := chiplog.Open(d)
	none(t, "out", l, e, api.ErrDead)
	powerOff(c)
	l, e = chiplog.Open(d)
	none(t, "without power, and out", l, e, api.ErrDown)
	c.Put(true)
	l, e = chiplog.Open(d)
	none(t, "without power", l, e, api.ErrDown)
	c.On()
	numbers(t, "at last", over(t, "at last", d, chiplog.Open), 8, 4)
}

// P8.1: what stands on a disk by the chapter's words is the log that Open gives.
func TestOpenFinds(t *testing.T) {
	c, d := formatted(t, 24)
	lay(t, d, 0, wearOf(3), headOf(300), record(0), record(1))
	lay(t, d, 1, wearOf(258), headOf(7), record(2), record(3), record(4), record(5), record(6), record(7))
	lay(t, d, 2, wearOf(0), headOf(1<<56))
	lay(t, d, 3, turn(wearOf(6), 5), turn(headOf(258), 90), record(8), turn(record(9), 1000))
	lay(t, d, 4, wearOf(7), turn(headOf(5), 90, 91), record(10))
	lay(t, d, 5, wearOf(8), page(api.KindHead, pack.Num(7, 5)), record(11))
	lay(t, d, 6, wearOf(8), page(api.KindHead, pack.Num(8, 5), []byte{0}), record(12))
	lay(t, d, 7, wearOf(8), record(13), headOf(6))
	lay(t, d, 8, headOf(11), wearOf(9), record(14))
	lay(t, d, 9)
	lay(t, d, 10, record(15), headOf(2), record(16))
	lay(t, d, 11, wearOf(1), headOf(3), blank(), turn(record(17), 4, 5), record(18), wearOf(5), page(api.KindTable), headOf(9))
	lay(t, d, 12, blank(), headOf(0), record(19))
	l := opened(t, "laid", c)
	want := fmt.Sprint([]api.Segment{
		{Block: 12, Seq: 0, Wear: 258, Records: []api.Place{{Block: 12, Page: 2}}},
		{Block: 10, Seq: 2, Wear: 258, Records: []api.Place{{Block: 10, Page: 2}}},
		{Block: 11, Seq: 3, Wear: 1, Records: []api.Place{{Block: 11, Page: 4}}},
		{Block: 1, Seq: 7, Wear: 258, Records: []api.Place{{Block: 1, Page: 2}, {Block: 1, Page: 3}, {Block: 1, Page: 4}, {Block: 1, Page: 5}, {Block: 1, Page: 6}, {Block: 1, Page: 7}}},
		{Block: 3, Seq: 258, Wear: 6, Records: []api.Place{{Block: 3, Page: 2}, {Block: 3, Page: 3}}},
		{Block: 0, Seq: 300, Wear: 3, Records: []api.Place{{Block: 0, Page: 2}, {Block: 0, Page: 3}}},
		{Block: 2, Seq: 1 << 56, Wear: 0, Records: nil},
	})
	if got := fmt.Sprint(l.Segments()); got != want {
		t.Errorf("Segments: %s, not %s", got, want)
	}
	numbers(t, "laid", l, 18-7, 6)
	for i, p := range fill(t, l, 50, 6) {
		if p != (api.Place{Block: 2, Page: 2 + i}) {
			t.Errorf("the record %d stands at %v", i, p)
		}
	}
	// Of the free blocks the wear of 9 isn't known, and that of 13 to 17 neither; so the least one is 4's.
	if p := add(t, l, 60); p != (api.Place{Block: 4, Page: 2}) {
		t.Errorf("the next block is that of %v", p)
	}
	stands(t, "begun", l, 4, 0, wearOf(7))
	stands(t, "begun", l, 4, 1, headOf(1<<56+1))
}

// P8.1: a disk on which there never was a log holds an empty one, of blocks without wear.
func TestOpenBlank(t *testing.T) {
	c, _ := formatted(t, 16)
	l := opened(t, "blank", c)
	numbers(t, "blank", l, 10, 0)
	same(t, "blank: Segments", blocks(l), nil)
	fill(t, l, 0, 13)
	same(t, "blank: blocks", blocks(l), []int{0, 1, 2})
	same(t, "blank: Wear", wears(l), []uint64{0, 0, 0})
	likeOpened(t, "blank", c, l)
}

// P8.1, P8.4: at each step Open gives the log as it is.
func TestOpenGoesOn(t *testing.T) {
	c, l := made(t, 16)
	for k := range 100 {
		add(t, l, k)
		likeOpened(t, fmt.Sprintf("%d records", k+1), c, l)
		if l.Free() < 3 {
			want(t, "Drop", l.Drop(l.Segments()[k%5].Block), api.OK)
			likeOpened(t, fmt.Sprintf("dropped behind %d records", k+1), c, l)
		}
		if k%7 == 0 {
			l = opened(t, "gone on", c)
		}
	}
}

// P1: each call ends and doesn't panic, whatever numbers it is given, and whatever is wrong with the chip.
func TestAnything(t *testing.T) {
	for _, breaks := range []func(c *nand.Chip){
		func(c *nand.Chip) {},
		func(c *nand.Chip) { c.Die() },
		powerOff,
		func(c *nand.Chip) { c.Fail(true, every(1000)...) },
		func(c *nand.Chip) { c.Fail(false, every(1000)...) },
	} {
		c, l := made(t, 16)
		fill(t, l, 0, 8)
		breaks(c)
		for _, n := range append(slices.Clone(odd), 0, 1, 7, 8, 9, 10) {
			for _, m := range odd {
				l.Get(api.Place{Block: n, Page: m})
				l.Get(api.Place{Block: m, Page: n})
			}
			l.Mend(n)
			l.Drop(n)
			for k := range 256 {
				l.Append(byte(k), nil, make([]byte, k))
			}
			l.Shut()
			l.Segments()
			l.Free()
			l.Room()
		}
		chiplog.Open(l.Disk)
		chiplog.New(l.Disk)
	}
	// A number beyond which there is none leaves none for another segment; of two with one number one is the last.
	c, d := formatted(t, 16)
	for block := range 2 {
		lay(t, d, block, wearOf(math.MaxUint64), headOf(math.MaxUint64), record(block))
	}
	l := opened(t, "the greatest number", c)
	fill(t, l, 0, 5)
	refused(t, "the greatest number", l, api.ErrNoSpace)
	numbers(t, "the greatest number", l, 8, 0)
}

// A log has the other methods of its disk, and of the chip.
func TestPromoted(t *testing.T) {
	c, l := made(t, 16, 3)
	add(t, l, 0)
	if l.Len() != 10 || l.Lost() != 1 || l.Blocks() != 16 || !l.Bad(3) || !l.Live() || l.Off() || l.Count() != c.Count() {
		t.Error("it isn't over its chip")
	}
	want(t, "Refresh", l.Refresh(), api.OK)
	l.Put(false)
	refused(t, "out", l, api.ErrDead)
	l.Put(true)
	l.Cut(0, 0)
	refused(t, "the power goes", l, api.ErrDown)
	l.On()
	l.Fail(true, 0)
	add(t, l, 1)
	if l.Lost() != 2 {
		t.Errorf("Lost is %d", l.Lost())
	}
	l.Die()
	refused(t, "dead", l, api.ErrDead)
}
