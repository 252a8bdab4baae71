package disk_test

import (
	"fmt"
	"math"
	"testing"

	"keelson/api"
	"keelson/bbt"
	"keelson/disk"
	"keelson/frame"
	"keelson/nand"
)

// record gives a page that is different for each k.
func record(k int) api.Page {
	p, e := frame.Write(byte(20+k%100), []byte(fmt.Sprint("the record ", k)))
	if e != api.OK {
		panic(e)
	}
	return p
}

// blank gives a page that holds nothing.
func blank() api.Page {
	var p api.Page
	for i := range p {
		p[i] = 255
	}
	return p
}

// turn gives a page of which bits are turned.
func turn(p api.Page, bits ...int) api.Page {
	for _, bit := range bits {
		p[bit/8] ^= 1 << (bit % 8)
	}
	return p
}

// chip gives a blank chip with power of its own.
func chip(blocks int, bad ...int) *nand.Chip {
	c, _ := nand.New(nand.NewPower(), blocks, bad...)
	return c
}

// formatted gives a chip, and the disk that it was made.
func formatted(t *testing.T, blocks int, bad ...int) (*nand.Chip, *disk.Disk) {
	t.Helper()
	c := chip(blocks, bad...)
	d, e := disk.Format(c)
	if d == nil || e != api.OK {
		t.Fatalf("Format: %v", e)
	}
	return c, d
}

// opened gives the disk of a chip.
func opened(t *testing.T, what string, c *nand.Chip) *disk.Disk {
	t.Helper()
	d, e := disk.Open(c)
	if d == nil || e != api.OK {
		t.Fatalf("%s: Open: %v", what, e)
	}
	return d
}

// at gives the chip's block of a logical one, as the table that is kept tells it.
func at(t *testing.T, c *nand.Chip, block int) int {
	t.Helper()
	x, e := bbt.Open(c)
	if e != api.OK {
		t.Fatalf("the table: %v", e)
	}
	at, ok := x.At(block)
	if !ok {
		t.Fatalf("the table has no block %d", block)
	}
	return at
}

// spare gives the spare that is taken next.
func spare(t *testing.T, c *nand.Chip) int {
	t.Helper()
	x, e := bbt.Open(c)
	if e != api.OK {
		t.Fatalf("the table: %v", e)
	}
	block, ok := x.Spare()
	if !ok {
		t.Fatal("no spare")
	}
	return block
}

// write writes pages into a block, from the first one on.
func write(t *testing.T, d *disk.Disk, block int, pages ...api.Page) {
	t.Helper()
	for i, p := range pages {
		want(t, fmt.Sprintf("Program(%d, %d)", block, i), d.Program(block, i, p), api.OK)
	}
}

// holds tells of a block whose pages, from the first one on, aren't those wanted.
func holds(t *testing.T, what string, d *disk.Disk, block int, pages ...api.Page) {
	t.Helper()
	for i, p := range pages {
		got, e := d.Read(block, i)
		if got != p || e != api.OK {
			t.Errorf("%s: Read(%d, %d): %v, or another page", what, block, i, e)
		}
	}
}

// comesNext tells of a block whose next page isn't the one wanted (8: none).
func comesNext(t *testing.T, what string, d *disk.Disk, block, next int) {
	t.Helper()
	for page := range api.BlockPages {
		if page != next {
			refused(t, what, d, block, page, api.ErrOrder)
		}
	}
	if next < api.BlockPages {
		want(t, what+": the next page", d.Program(block, next, record(next)), api.OK)
		holdsAt(t, what+": the next page", d, block, next, record(next))
	}
}

// holdsAt tells of a page that isn't the one wanted.
func holdsAt(t *testing.T, what string, d *disk.Disk, block, page int, p api.Page) {
	t.Helper()
	got, e := d.Read(block, page)
	if got != p || e != api.OK {
		t.Errorf("%s: Read(%d, %d): %v, or another page", what, block, page, e)
	}
}

// refused tells of a Program that isn't refused so, or does an act.
func refused(t *testing.T, what string, d *disk.Disk, block, page int, e api.Errno) {
	t.Helper()
	before := d.Count()
	want(t, fmt.Sprintf("%s: Program(%d, %d)", what, block, page), d.Program(block, page, record(99)), e)
	if d.Count() != before {
		t.Errorf("%s: Program(%d, %d), which was refused, did an act", what, block, page)
	}
}

// want tells of an error that isn't the one wanted.
func want(t *testing.T, what string, got, e api.Errno) {
	t.Helper()
	if got != e {
		t.Errorf("%s: %v, not %v", what, got, e)
	}
}

// none tells of a disk beside an error.
func none(t *testing.T, what string, d *disk.Disk, got, e api.Errno) {
	t.Helper()
	want(t, what, got, e)
	if d != nil {
		t.Errorf("%s: a disk beside %v", what, got)
	}
}

// turnTable turns bits of all pages in which a chip's table may stand.
func turnTable(c *nand.Chip, bits ...int) {
	for page := range api.Reserved * api.BlockPages {
		for _, bit := range bits {
			c.Flip(page/api.BlockPages, page%api.BlockPages, bit)
		}
	}
}

// every gives the numbers from 0 on.
func every(n int) []int {
	list := make([]int, n)
	for i := range list {
		list[i] = i
	}
	return list
}

// odd are numbers that no page and no block has.
var odd = []int{math.MinInt, math.MinInt32, -1, 40, 255, 256, math.MaxInt32, math.MaxInt}

// P7.1: a chip that was formatted has a disk of just so many blocks, which Open gives, too.
func TestFormatAndOpen(t *testing.T) {
	for blocks := api.MinBlocks; blocks <= api.MaxBlocks; blocks++ {
		c, d := formatted(t, blocks)
		o := opened(t, "formatted", c)
		if d.Len() != blocks-6 || o.Len() != blocks-6 || d.Lost() != 0 || o.Lost() != 0 {
			t.Errorf("%d blocks: Len %d, %d, Lost %d, %d", blocks, d.Len(), o.Len(), d.Lost(), o.Lost())
		}
		for block := range d.Len() {
			write(t, d, block, record(block))
		}
		for block := range d.Len() {
			holds(t, "Open", opened(t, "written", c), block, record(block), blank())
		}
	}
	for lost, bad := range [][]int{{}, {7}, {2, 15}, {3, 4, 5}, {2, 9, 14, 15}} {
		c, d := formatted(t, 16, bad...)
		if o := opened(t, "bad", c); d.Len() != 10 || d.Lost() != lost || o.Lost() != lost {
			t.Errorf("%v bad: Len %d, Lost %d, %d", bad, d.Len(), d.Lost(), o.Lost())
		}
		for block := range d.Len() {
			write(t, d, block, record(block))
		}
		if d.Lost() != lost {
			t.Errorf("%v bad: a bad block was written", bad)
		}
	}
}

// P7.1: Format answers layer 6's errors, and nothing beside them.
func TestFormatErrors(t *testing.T) {
	for _, bad := range [][]int{{0}, {1}, {0, 1}, {2, 3, 4, 5, 6}} {
		d, e := disk.Format(chip(16, bad...))
		none(t, fmt.Sprintf("%v bad", bad), d, e, api.ErrWorn)
	}
	c := chip(16)
	c.Fail(true, every(100)...)
	d, e := disk.Format(c)
	none(t, "no program goes well", d, e, api.ErrWorn)
	c = chip(16)
	c.Cut(0, 0)
	d, e = disk.Format(c)
	none(t, "the power goes", d, e, api.ErrDown)
	c.Die()
	d, e = disk.Format(c)
	none(t, "dead, and without power", d, e, api.ErrDown)
	c.On()
	d, e = disk.Format(c)
	none(t, "dead", d, e, api.ErrDead)
}

// P7.1: Open answers layer 6's errors, and nothing beside them, and does no act.
func TestOpenErrors(t *testing.T) {
	d, e := disk.Open(chip(16))
	none(t, "blank", d, e, api.ErrNoLog)
	c, _ := formatted(t, 16)
	before := c.Count()
	opened(t, "formatted", c)
	if c.Count() != before {
		t.Error("Open did an act")
	}
	c.Put(false)
	d, e = disk.Open(c)
	none(t, "out", d, e, api.ErrDead)
	c.Cut(0, 0)
	c.Put(true)
	c.Erase(9)
	c.Put(false)
	d, e = disk.Open(c)
	none(t, "out, and without power", d, e, api.ErrDown)
	c.On()
	c.Put(true)
	opened(t, "in again", c)
	c.Erase(0)
	c.Erase(1)
	d, e = disk.Open(c)
	none(t, "no table", d, e, api.ErrNoLog)
}

// P7.1: Refresh is the table's: it mends the table's page, and does nothing where nothing is to be mended.
func TestRefresh(t *testing.T) {
	c, d := formatted(t, 16, 3)
	write(t, d, 4, record(0), record(1))
	for round := range 60 {
		before := c.Count()
		want(t, "Refresh", d.Refresh(), api.OK)
		if c.Count() != before {
			t.Fatalf("round %d: Refresh of what is as it was written did an act", round)
		}
		for page := range 2 * api.BlockPages {
			c.Flip(page/8, page%8, (round*331+page*977)%(8*api.PageSize))
		}
		want(t, "Refresh", d.Refresh(), api.OK)
		o := opened(t, fmt.Sprintf("round %d", round), c)
		holds(t, "refreshed", o, 4, record(0), record(1))
	}
	turnTable(c, 5)
	c.Fail(true, every(100)...)
	want(t, "Refresh, and no program goes well", d.Refresh(), api.ErrWorn)
	c.Fail(true)
	holds(t, "worn", opened(t, "worn", c), 4, record(0), record(1))
	c.Cut(0, 0)
	want(t, "Refresh, and the power goes", d.Refresh(), api.ErrDown)
	c.Put(false)
	want(t, "Refresh without power, and out", d.Refresh(), api.ErrDown)
	c.On()
	want(t, "Refresh, and out", d.Refresh(), api.ErrDead)
	c.Put(true)
	want(t, "Refresh at last", d.Refresh(), api.OK)
	holds(t, "at last", opened(t, "at last", c), 4, record(0), record(1))
}

// P7.1: Refresh keeps a table anew that can't be read any more.
func TestRefreshUnreadable(t *testing.T) {
	c, d := formatted(t, 16)
	write(t, d, 0, record(0))
	c.Fail(true, 0)
	want(t, "Program", d.Program(0, 1, record(1)), api.OK)
	turnTable(c, 100, 900)
	o, e := disk.Open(c)
	none(t, "two bits turned", o, e, api.ErrNoLog)
	want(t, "Refresh", d.Refresh(), api.OK)
	o = opened(t, "Refresh", c)
	holds(t, "Refresh", o, 0, record(0), record(1))
	if d.Lost() != 1 || o.Lost() != 1 {
		t.Errorf("Lost: %d, %d", d.Lost(), o.Lost())
	}
}

// P7.2: Read gives the page of the chip's block bit by bit, and does no act.
func TestRead(t *testing.T) {
	c, d := formatted(t, 20, 2, 7)
	for block := range d.Len() {
		for page := range api.BlockPages {
			want(t, "Program", d.Program(block, page, record(8*block+page)), api.OK)
		}
	}
	before := c.Count()
	for block := range d.Len() {
		for page := range api.BlockPages {
			holdsAt(t, "written", d, block, page, record(8*block+page))
			p, e := c.Read(at(t, c, block), page)
			if p != record(8*block+page) || e != api.OK {
				t.Errorf("the chip's page of %d, %d: %v, or another one", block, page, e)
			}
			c.Flip(at(t, c, block), page, 9)
			holdsAt(t, "a bit turned", d, block, page, turn(record(8*block+page), 9))
			c.Flip(at(t, c, block), page, 900)
			holdsAt(t, "two bits turned", d, block, page, turn(record(8*block+page), 9, 900))
		}
	}
	if c.Count() != before {
		t.Error("Read did an act")
	}
}

// P7.2, P7.3: what is no page is ErrArg, and changes nothing; the table's own blocks are no disk's.
func TestWrongPages(t *testing.T) {
	for _, blocks := range []int{16, 20, 40} {
		c, d := formatted(t, blocks)
		var wrong [][2]int
		for _, i := range append(odd, d.Len(), blocks-1, blocks) {
			wrong = append(wrong, [2]int{i, 0}, [2]int{i, 7}, [2]int{i, i})
			want(t, fmt.Sprintf("Erase(%d)", i), eraseOf(t, d, i), api.ErrArg)
		}
		for _, i := range append(odd, 8, 9, 16) {
			wrong = append(wrong, [2]int{0, i}, [2]int{d.Len() - 1, i}, [2]int{d.Len(), i})
		}
		for _, k := range wrong {
			p, e := d.Read(k[0], k[1])
			if p != (api.Page{}) || e != api.ErrArg {
				t.Errorf("Read(%d, %d): %v, or a page beside it", k[0], k[1], e)
			}
			refused(t, "no page", d, k[0], k[1], api.ErrArg)
		}
		opened(t, "wrong pages", c)
	}
}

// eraseOf does an Erase that is to be refused, and tells of its acts.
func eraseOf(t *testing.T, d *disk.Disk, block int) api.Errno {
	t.Helper()
	before := d.Count()
	e := d.Erase(block)
	if d.Count() != before {
		t.Errorf("Erase(%d) did an act", block)
	}
	return e
}

// P7.2, P7.3: ErrDown comes first, then ErrDead, then ErrArg, then ErrOrder.
func TestErrorsInOrder(t *testing.T) {
	c, d := formatted(t, 16)
	write(t, d, 3, record(0))
	check := func(what string, read, program, erase api.Errno, block, page int) {
		t.Helper()
		p, e := d.Read(block, page)
		want(t, what+": Read", e, read)
		if e != api.OK && p != (api.Page{}) {
			t.Errorf("%s: a page beside %v", what, e)
		}
		refused(t, what, d, block, page, program)
		if erase != api.OK {
			want(t, what+": Erase", eraseOf(t, d, block), erase)
		}
	}
	pages := [][2]int{{3, 0}, {3, 1}, {10, 0}, {-1, -1}, {0, 8}, {math.MaxInt, math.MinInt}}
	check("a page that was written", api.OK, api.ErrOrder, api.OK, 3, 0)
	check("no block", api.ErrArg, api.ErrArg, api.ErrArg, 10, 0)
	c.Put(false)
	for _, k := range pages {
		check("out", api.ErrDead, api.ErrDead, api.ErrDead, k[0], k[1])
	}
	c.Put(true)
	c.Cut(0, 0)
	c.Erase(15)
	for _, k := range pages {
		check("no power", api.ErrDown, api.ErrDown, api.ErrDown, k[0], k[1])
	}
	c.Die()
	for _, k := range pages {
		check("dead, and no power", api.ErrDown, api.ErrDown, api.ErrDown, k[0], k[1])
	}
	c.On()
	for _, k := range pages {
		check("dead", api.ErrDead, api.ErrDead, api.ErrDead, k[0], k[1])
	}
}

// P7.3: pages are written in order, each of them once, till the block is erased; one act each.
func TestProgramAndErase(t *testing.T) {
	c, d := formatted(t, 16)
	write(t, d, 8, record(70), record(71))
	for round := range 5 {
		for page := range api.BlockPages {
			for other := range api.BlockPages {
				if other != page {
					refused(t, "out of order", d, 9, other, api.ErrOrder)
				}
			}
			before := c.Count()
			want(t, "Program", d.Program(9, page, record(10*round+page)), api.OK)
			if c.Count() != before+1 {
				t.Errorf("Program did %d acts", c.Count()-before)
			}
			for ahead := range api.BlockPages {
				p := blank()
				if ahead <= page {
					p = record(10*round + ahead)
				}
				holdsAt(t, "written", d, 9, ahead, p)
			}
		}
		comesNext(t, "full", d, 9, 8)
		before := c.Count()
		want(t, "Erase", d.Erase(9), api.OK)
		if c.Count() != before+1 {
			t.Errorf("Erase did %d acts", c.Count()-before)
		}
		for page := range api.BlockPages {
			holdsAt(t, "erased", d, 9, page, blank())
		}
	}
	want(t, "Erase of what is blank", d.Erase(9), api.OK)
	comesNext(t, "erased twice", d, 9, 0)
	want(t, "Erase of what isn't full", d.Erase(9), api.OK)
	comesNext(t, "erased again", d, 9, 0)
	holds(t, "the other block", d, 8, record(70), record(71), blank())
	comesNext(t, "the other block", d, 8, 2)
	if d.Lost() != 0 {
		t.Errorf("Lost: %d", d.Lost())
	}
}

// P7.3: any bytes may be a page.
func TestAnyPages(t *testing.T) {
	_, d := formatted(t, 16)
	pages := []api.Page{{}, blank(), turn(blank(), 2063), turn(record(1), 77), {1, 2, 3}, turn(record(2), 5, 500), turn(record(3), 2063), record(4)}
	write(t, d, 0, pages...)
	holds(t, "any pages", d, 0, pages...)
}

// P1, P7.2, P7.3: a disk has the chip's other methods.
func TestChipsMethods(t *testing.T) {
	c, d := formatted(t, 18, 5)
	if d.Blocks() != 18 || !d.Bad(5) || d.Bad(4) || !d.Live() || d.Off() || d.Count() != c.Count() {
		t.Error("Blocks, Bad, Live, Off, Count")
	}
	d.Put(false)
	if c.Live() {
		t.Error("Put")
	}
	d.Put(true)
	d.Cut(0, 258)
	want(t, "Program", d.Program(0, 0, record(1)), api.ErrDown)
	if !c.Off() || !d.Off() {
		t.Error("Cut")
	}
	d.On()
	want(t, "Flip", d.Flip(at(t, c, 0), 0, 3), api.OK)
	holds(t, "Flip", d, 0, turn(record(1), 3))
	d.Fail(false, 0)
	want(t, "Erase", d.Erase(0), api.OK)
	if d.Lost() != 2 {
		t.Errorf("Fail: Lost %d", d.Lost())
	}
	d.Die()
	if c.Live() || d.Live() {
		t.Error("Die")
	}
}

// P7.5, and rule 6: disks of two chips are by themselves, but for the power; what is answered is a page of its own.
func TestByThemselves(t *testing.T) {
	p := nand.NewPower()
	one, _ := nand.New(p, 16)
	two, _ := nand.New(p, 16)
	d, _ := disk.Format(one)
	o, _ := disk.Format(two)
	list := []api.Page{record(1), record(2), record(3)}[:2:3]
	write(t, d, 0, list...)
	if list[0] != record(1) || list[1] != record(2) || list[:3][2] != record(3) {
		t.Error("what was handed in was changed")
	}
	list[0] = record(9)
	holds(t, "one", d, 0, record(1), record(2), blank())
	holds(t, "two", o, 0, blank())
	got, _ := d.Read(0, 0)
	got[7] ^= 255
	holds(t, "what was answered was written over", d, 0, record(1))
	one.Fail(false, 0)
	want(t, "Erase", d.Erase(1), api.OK)
	if d.Lost() != 1 || o.Lost() != 0 {
		t.Errorf("Lost: %d, %d", d.Lost(), o.Lost())
	}
	two.Cut(0, 0)
	want(t, "two without power", o.Erase(3), api.ErrDown)
	want(t, "one without power", d.Erase(3), api.ErrDown)
}
