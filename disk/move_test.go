package disk_test

import (
	"fmt"
	"testing"

	"keelson/api"
	"keelson/bbt"
	"keelson/disk"
	"keelson/nand"
)

// swapActs tells how many acts a table of a chip needs to name a spare in a block's place.
func swapActs(t *testing.T, blocks int) int {
	t.Helper()
	c := chip(blocks)
	x, _ := bbt.Format(c)
	block, _ := x.Spare()
	before := c.Count()
	want(t, "Swap", x.Swap(0, block), api.OK)
	return c.Count() - before
}

// dirty writes something into all spares of a chip, as a move that broke off may have.
func dirty(t *testing.T, c *nand.Chip) {
	t.Helper()
	for block := 12; block < 16; block++ {
		for page := range 5 {
			want(t, "dirty", c.Program(block, page, api.Page{}), api.OK)
		}
	}
}

// P7.3: a Program that fails moves the block: the pages ahead, this one, the next one stand on an erased spare.
func TestProgramMoves(t *testing.T) {
	for page := range api.BlockPages {
		c, d := formatted(t, 16)
		dirty(t, c)
		var pages []api.Page
		for i := range page + 1 {
			pages = append(pages, record(i))
		}
		write(t, d, 4, pages[:page]...)
		write(t, d, 5, record(50))
		old, next := at(t, c, 4), spare(t, c)
		c.Fail(true, 0)
		before := c.Count()
		what := fmt.Sprintf("the page %d", page)
		want(t, what, d.Program(4, page, pages[page]), api.OK)
		// The Program that failed, the spare's Erase and its pages, the table.
		if acts := 1 + 1 + (page + 1) + swapActs(t, 16); c.Count()-before != acts {
			t.Errorf("%s: %d acts, not %d", what, c.Count()-before, acts)
		}
		if at(t, c, 4) != next || next == old || d.Lost() != 1 {
			t.Errorf("%s: the block is %d, it was %d; Lost is %d", what, at(t, c, 4), old, d.Lost())
		}
		for _, x := range []*disk.Disk{d, opened(t, what, c)} {
			holds(t, what, x, 4, pages...)
			for behind := page + 1; behind < api.BlockPages; behind++ {
				holdsAt(t, what+": behind it", x, 4, behind, blank())
			}
			holds(t, what+": another block", x, 5, record(50), blank())
		}
		comesNext(t, what, d, 4, page+1)
		want(t, what+": Erase", d.Erase(4), api.OK)
		comesNext(t, what+": Erase", opened(t, what, c), 4, 0)
	}
}

// P7.3: an Erase that fails moves the block to a spare that is blank.
func TestEraseMoves(t *testing.T) {
	for pages := range api.BlockPages + 1 {
		c, d := formatted(t, 16)
		dirty(t, c)
		for i := range pages {
			want(t, "Program", d.Program(4, i, record(i)), api.OK)
		}
		write(t, d, 3, record(50), record(51))
		next := spare(t, c)
		c.Fail(false, 0)
		before := c.Count()
		what := fmt.Sprintf("%d pages", pages)
		want(t, what, d.Erase(4), api.OK)
		if acts := 1 + 1 + swapActs(t, 16); c.Count()-before != acts {
			t.Errorf("%s: %d acts, not %d", what, c.Count()-before, acts)
		}
		if at(t, c, 4) != next || d.Lost() != 1 {
			t.Errorf("%s: the block is %d, not %d; Lost is %d", what, at(t, c, 4), next, d.Lost())
		}
		o := opened(t, what, c)
		for page := range api.BlockPages {
			holdsAt(t, what, d, 4, page, blank())
			holdsAt(t, what, o, 4, page, blank())
		}
		holds(t, what, o, 3, record(50), record(51), blank())
		comesNext(t, what, d, 4, 0)
		comesNext(t, what+": another block", d, 3, 2)
	}
}

// P7.3: a spare at which something fails is lost, and another one is taken.
func TestSparesFail(t *testing.T) {
	cases := []struct {
		name             string
		programs, erases []int
		lost             int
	}{
		{"its erase", []int{0}, []int{0}, 2},
		{"its first page", []int{0, 1}, nil, 2},
		{"its second page", []int{0, 2}, nil, 2},
		{"its last page ahead", []int{0, 3}, nil, 2},
		{"the page itself", []int{0, 4}, nil, 2},
		{"none of it", []int{0}, nil, 1},
	}
	for _, k := range cases {
		c, d := formatted(t, 16)
		dirty(t, c)
		write(t, d, 7, record(0), record(1), record(2))
		first := spare(t, c)
		c.Fail(true, k.programs...)
		c.Fail(false, k.erases...)
		want(t, k.name, d.Program(7, 3, record(3)), api.OK)
		if d.Lost() != k.lost || (at(t, c, 7) == first) != (k.lost == 1) {
			t.Errorf("%s: Lost is %d, not %d; the block is %d", k.name, d.Lost(), k.lost, at(t, c, 7))
		}
		o := opened(t, k.name, c)
		if o.Lost() != k.lost {
			t.Errorf("%s: opened: Lost is %d, not %d", k.name, o.Lost(), k.lost)
		}
		holds(t, k.name, o, 7, record(0), record(1), record(2), record(3), blank(), blank(), blank(), blank())
		comesNext(t, k.name, d, 7, 4)
	}
	c, d := formatted(t, 16)
	write(t, d, 7, record(0), record(1))
	dirty(t, c)
	first := spare(t, c)
	c.Fail(false, 0, 1)
	want(t, "Erase, and a spare's", d.Erase(7), api.OK)
	if d.Lost() != 2 || at(t, c, 7) == first {
		t.Errorf("Erase, and a spare's: Lost is %d, the block is %d", d.Lost(), at(t, c, 7))
	}
	holds(t, "Erase, and a spare's", opened(t, "erased", c), 7, blank(), blank())
	comesNext(t, "Erase, and a spare's", d, 7, 0)
}

// P7.3: what layer 5 can mend of the pages ahead is mended when they move: the turned bit is turned back.
func TestMovedPagesAreMended(t *testing.T) {
	for _, bit := range []int{0, 1, 8, 300, 2015, 2047, 2048, 2056, 2060, 2061, 2062, 2063} {
		c, d := formatted(t, 16)
		write(t, d, 2, record(0), record(1), record(2))
		for page := range 3 {
			c.Flip(at(t, c, 2), page, (bit+page*688)%2064)
		}
		c.Fail(true, 0)
		want(t, "Program", d.Program(2, 3, record(3)), api.OK)
		holds(t, fmt.Sprintf("the bit %d", bit), d, 2, record(0), record(1), record(2), record(3))
	}
}

// P7.3: what layer 5 can't mend moves as it stands, and so does what is no record, and the page itself.
func TestMovedPagesAsTheyStand(t *testing.T) {
	noRecord := record(6)
	noRecord[40] ^= 3
	pages := []api.Page{blank(), turn(blank(), 9), {}, turn(record(3), 5, 500), turn(record(4), 2061, 2062), noRecord, turn(blank(), 1, 2), turn(record(7), 9)}
	for size := 1; size <= len(pages); size++ {
		c, d := formatted(t, 16)
		write(t, d, 2, pages[:size-1]...)
		c.Fail(true, 0)
		what := fmt.Sprintf("%d pages", size)
		want(t, what, d.Program(2, size-1, pages[size-1]), api.OK)
		holds(t, what, d, 2, pages[:size]...)
		holds(t, what, opened(t, what, c), 2, pages[:size]...)
		comesNext(t, what, d, 2, size)
	}
	c, d := formatted(t, 16)
	write(t, d, 2, record(0), record(1))
	c.Flip(at(t, c, 2), 0, 5)
	c.Flip(at(t, c, 2), 0, 500)
	c.Fail(true, 0)
	want(t, "two bits turned", d.Program(2, 2, record(2)), api.OK)
	holds(t, "two bits turned", d, 2, turn(record(0), 5, 500), record(1), record(2))
}

// P7.3: a block may move as often as there are spares; then it is ErrWorn, and what was written stays.
func TestNoSpareLeft(t *testing.T) {
	for bad := range 5 {
		c, d := formatted(t, 16, every(14)[2:2+bad]...)
		for block := range d.Len() {
			write(t, d, block, record(block), record(block+10))
		}
		for i := range 4 - bad {
			c.Fail(true, 0)
			want(t, "Program", d.Program(i, 2, record(i+20)), api.OK)
		}
		if d.Lost() != 4 {
			t.Fatalf("%d bad: Lost is %d", bad, d.Lost())
		}
		what := fmt.Sprintf("%d bad", bad)
		c.Fail(true, 0)
		want(t, what+": Program", d.Program(9, 2, record(29)), api.ErrWorn)
		c.Fail(false, 0)
		want(t, what+": Erase", d.Erase(8), api.ErrWorn)
		for _, x := range []*disk.Disk{d, opened(t, what, c)} {
			for block := range d.Len() {
				if block != 8 {
					holds(t, what, x, block, record(block), record(block+10))
				}
			}
			for i := range 4 - bad {
				holdsAt(t, what, x, i, 2, record(i+20))
			}
			if x.Lost() != 4 {
				t.Errorf("%s: Lost is %d", what, x.Lost())
			}
		}
		// What goes well goes on.
		want(t, what+": Erase at last", d.Erase(9), api.OK)
		comesNext(t, what+": Erase at last", d, 9, 0)
	}
}

// P7.3: ErrWorn, too, if all spares fail one by one; each of them is lost.
func TestAllSparesFail(t *testing.T) {
	program := func(d *disk.Disk) api.Errno { return d.Program(1, 1, record(1)) }
	erase := func(d *disk.Disk) api.Errno { return d.Erase(1) }
	for i, do := range []func(d *disk.Disk) api.Errno{program, erase} {
		var fails []int
		// An erase that fails is a spare's, which is lost then, or the table's, which is tried again.
		for n := i; len(fails) < 4; n++ {
			c, d := formatted(t, 16)
			write(t, d, 1, record(0))
			c.Fail(true, every(1-i)...)
			c.Fail(false, append(append(every(i), fails...), n)...)
			e := do(d)
			spares := d.Lost()
			if e == api.OK {
				spares--
				want(t, "opened", opened(t, "moved", c).Program(1, 2-2*i, record(2)), api.OK)
			} else {
				want(t, "all spares fail", e, api.ErrWorn)
				holds(t, "all spares fail", d, 1, record(0))
			}
			if spares > len(fails) {
				fails = append(fails, n)
			}
			if o := opened(t, "spares fail", c); o.Lost() != d.Lost() || (e == api.OK) != (spares < 4) {
				t.Errorf("%d spares fail: %v; Lost is %d, opened %d", spares, e, d.Lost(), o.Lost())
			}
			if n > 100 {
				t.Fatal("no erase of a spare")
			}
		}
	}
}

// P7.3: ErrWorn, if the table can't be kept; what was written stays, and is there when the disk is used on.
func TestTableCantBeKept(t *testing.T) {
	for _, programs := range []bool{true, false} {
		for first := range 12 {
			c, d := formatted(t, 16)
			write(t, d, 1, record(0), record(1))
			write(t, d, 2, record(50))
			if programs {
				c.Fail(true, append([]int{0}, every(200)[4+first:]...)...)
			} else {
				c.Fail(true, 0)
				c.Fail(false, every(200)[1+first:]...)
			}
			what := fmt.Sprintf("programs %v, from %d on", programs, first)
			e := d.Program(1, 2, record(2))
			c.Fail(true)
			c.Fail(false)
			if e == api.OK {
				if first == 0 && programs {
					t.Errorf("%s: OK, though no table could be kept", what)
				}
				holds(t, what, opened(t, what, c), 1, record(0), record(1), record(2))
				continue
			}
			want(t, what, e, api.ErrWorn)
			if d.Lost() != 0 {
				t.Errorf("%s: Lost is %d", what, d.Lost())
			}
			holds(t, what, d, 1, record(0), record(1))
			holds(t, what, opened(t, what, c), 1, record(0), record(1))
			want(t, what+": the next page", d.Program(1, 3, record(3)), api.OK)
			want(t, what+": another block", d.Program(2, 1, record(51)), api.OK)
			o := opened(t, what, c)
			holds(t, what, o, 1, record(0), record(1))
			holdsAt(t, what, o, 1, 3, record(3))
			holds(t, what, o, 2, record(50), record(51), blank())
		}
	}
}

// P1: calls end, whatever fails: all acts of a chip.
func TestAllFails(t *testing.T) {
	for kinds := 1; kinds < 4; kinds++ {
		c, d := formatted(t, 16)
		write(t, d, 3, record(0), record(1))
		if kinds&1 != 0 {
			c.Fail(true, every(10000)...)
			want(t, "Program", d.Program(3, 2, record(2)), api.ErrWorn)
		}
		if kinds&2 != 0 {
			c.Fail(false, every(10000)...)
			want(t, "Erase", d.Erase(4), api.ErrWorn)
		}
		holds(t, "all fails", d, 3, record(0), record(1))
		holds(t, "all fails", opened(t, "all fails", c), 3, record(0), record(1))
	}
}
