package nand

import (
	"fmt"
	"math"
	"testing"

	"keelson/api"
)

// all gives a page of which each byte is b.
func all(b byte) (p api.Page) {
	for i := range p {
		p[i] = b
	}
	return p
}

// torn gives a page of which the first bytes are b, behind which it is blank.
func torn(size int, b byte) api.Page {
	p := all(255)
	for i := range size {
		p[i] = b
	}
	return p
}

// chip gives a chip with power of its own.
func chip(t *testing.T, blocks int, bad ...int) *Chip {
	t.Helper()
	return chipOn(t, NewPower(), blocks, bad...)
}

// chipOn gives a chip on that power.
func chipOn(t *testing.T, p *Power, blocks int, bad ...int) *Chip {
	t.Helper()
	c, e := New(p, blocks, bad...)
	if c == nil || e != api.OK {
		t.Fatalf("New(%d, %v): %v", blocks, bad, e)
	}
	return c
}

// want tells of an answer that isn't the one wanted.
func want(t *testing.T, what string, got, e api.Errno) {
	t.Helper()
	if got != e {
		t.Errorf("%s: %v, not %v", what, got, e)
	}
}

// holds tells of a page that isn't what is wanted.
func holds(t *testing.T, c *Chip, block, page int, p api.Page) {
	t.Helper()
	if got, e := c.Read(block, page); got != p || e != api.OK {
		t.Errorf("the page %d of the block %d: %x, %v, not %x", page, block, got, e, p)
	}
}

// fillBlock writes b into each page of a block.
func fillBlock(t *testing.T, c *Chip, block int, b byte) {
	t.Helper()
	for page := range api.BlockPages {
		want(t, "Program", c.Program(block, page, all(b)), api.OK)
	}
}

// P4.1: power lasts, unless a Cut says otherwise.
func TestPowerLasts(t *testing.T) {
	p := NewPower()
	if p.Off() {
		t.Error("new power is off")
	}
	c := chipOn(t, p, 16)
	p.Cut(-1, 0)
	c.Cut(math.MinInt, 5)
	for range 100 {
		want(t, "Erase", c.Erase(2), api.OK)
	}
	if p.Off() || c.Off() {
		t.Error("the power ended by itself")
	}
}

// P4.1: the power ends in just the act that the Cut named, whatever acts they are and whichever chip's.
func TestCutCounts(t *testing.T) {
	for after := range 7 {
		p := NewPower()
		one, two := chipOn(t, p, 16), chipOn(t, p, 17)
		p.Cut(after, 0)
		acts := []func() api.Errno{
			func() api.Errno { return one.Program(3, 0, all(0)) },
			func() api.Errno { return two.Erase(3) },
			func() api.Errno { return one.Erase(3) },
			func() api.Errno { return one.Erase(4) },
			func() api.Errno { return two.Program(3, 0, all(0)) },
			func() api.Errno { return two.Program(3, 1, all(0)) },
			func() api.Errno { return one.Program(4, 0, all(0)) },
		}
		for i, act := range acts {
			e := api.OK
			if i >= after {
				e = api.ErrDown
			}
			want(t, fmt.Sprintf("Cut(%d): the act %d", after, i), act(), e)
			if off := i >= after; p.Off() != off || one.Off() != off || two.Off() != off {
				t.Errorf("Cut(%d): behind the act %d: %v, %v, %v", after, i, p.Off(), one.Off(), two.Off())
			}
		}
		p.On()
		if p.Off() || one.Off() {
			t.Error("On: it is off")
		}
	}
}

// P4.1: a failed act is an act, too; a call that doesn't get as far as that, or reads, or turns a bit, isn't.
func TestCutCountsActsOnly(t *testing.T) {
	p := NewPower()
	c, out := chipOn(t, p, 16, 5), chipOn(t, p, 16)
	out.Put(false)
	p.Cut(2, 0)
	c.Fail(false, 0)
	for range 5 {
		want(t, "Program beside the next page", c.Program(0, 1, all(0)), api.ErrOrder)
		want(t, "Program of no block", c.Program(16, 0, all(0)), api.ErrArg)
		want(t, "Program of no page", c.Program(0, 8, all(0)), api.ErrArg)
		want(t, "Erase of no block", c.Erase(-1), api.ErrArg)
		want(t, "Program of a chip that is out", out.Program(0, 0, all(0)), api.ErrDead)
		want(t, "Erase of a chip that is out", out.Erase(0), api.ErrDead)
		want(t, "Flip", c.Flip(1, 1, 1), api.OK)
		c.Read(0, 0)
	}
	if c.Count() != 0 || out.Count() != 0 {
		t.Errorf("there were %d and %d acts", c.Count(), out.Count())
	}
	want(t, "Program of a bad block", c.Program(5, 0, all(0)), api.ErrFailed)
	want(t, "Erase that fails", c.Erase(1), api.ErrFailed)
	want(t, "the third act", c.Erase(1), api.ErrDown)
	if c.Count() != 3 {
		t.Errorf("there were %d acts, not 3", c.Count())
	}
}

// P4.1: a later Cut holds in place of an earlier one, also one that is below 0; On lets both be gone.
func TestCutAgain(t *testing.T) {
	c := chip(t, 16)
	c.Cut(0, 258)
	c.Cut(1, 3)
	want(t, "the first act", c.Program(0, 0, all(0)), api.OK)
	want(t, "the second act", c.Program(0, 1, all(0)), api.ErrDown)
	c.On()
	holds(t, c, 0, 1, torn(3, 0))
	c.Cut(1, 0)
	c.Cut(-1, 0)
	want(t, "the first act behind Cut(-1)", c.Erase(0), api.OK)
	want(t, "the second act behind Cut(-1)", c.Erase(0), api.OK)
	c.Cut(1, 0)
	c.On()
	for range 4 {
		want(t, "an act behind On", c.Erase(0), api.OK)
	}
}

// P4.1: a Cut counts from itself on, not from an earlier one.
func TestCutFromNowOn(t *testing.T) {
	c := chip(t, 16)
	c.Cut(3, 0)
	c.Erase(0)
	c.Erase(0)
	c.Cut(3, 0)
	for i := range 3 {
		want(t, fmt.Sprint("the act ", i), c.Erase(0), api.OK)
	}
	want(t, "the act 3", c.Erase(0), api.ErrDown)
}

// P4.1: power that is off stays off till On, and lasts then, whatever was said meanwhile.
func TestCutWhileOff(t *testing.T) {
	c := chip(t, 16)
	c.Cut(0, 0)
	want(t, "Erase", c.Erase(0), api.ErrDown)
	c.Cut(0, 0)
	c.Cut(-1, 0)
	if !c.Off() {
		t.Error("Cut gives power")
	}
	c.Cut(0, 0)
	c.On()
	if c.Off() {
		t.Error("On gives none")
	}
	want(t, "Erase behind On", c.Erase(0), api.OK)
	want(t, "Program behind On", c.Program(0, 0, all(1)), api.OK)
}

// P4.2: how many blocks there may be.
func TestNewBlocks(t *testing.T) {
	for _, n := range []int{16, 17, 28, 39, 40} {
		if c := chip(t, n); c.Blocks() != n {
			t.Errorf("%d blocks, not %d", c.Blocks(), n)
		}
	}
	for _, n := range []int{math.MinInt, -16, -1, 0, 1, 15, 41, 256, math.MaxInt} {
		if c, e := New(NewPower(), n); c != nil || e != api.ErrArg {
			t.Errorf("%d blocks: %v, %v", n, c, e)
		}
	}
}

// P4.2: which blocks are bad.
func TestNewBad(t *testing.T) {
	for _, bad := range [][]int{nil, {0}, {15}, {0, 15}, {7, 7}, {3, 1, 3, 2, 1}} {
		c := chip(t, 16, bad...)
		told := map[int]bool{}
		for _, b := range bad {
			told[b] = true
		}
		for b := -3; b < 50; b++ {
			if c.Bad(b) != told[b] {
				t.Errorf("%v: Bad(%d) is %v", bad, b, c.Bad(b))
			}
		}
		if c.Bad(math.MinInt) || c.Bad(math.MaxInt) {
			t.Errorf("%v: a block that isn't there is bad", bad)
		}
	}
	for _, bad := range [][]int{{-1}, {16}, {0, 16}, {-1, 0}, {math.MinInt}, {math.MaxInt}, {3, 3, 40}} {
		if c, e := New(NewPower(), 16, bad...); c != nil || e != api.ErrArg {
			t.Errorf("%v: %v, %v", bad, c, e)
		}
	}
	if c, e := New(NewPower(), 41, 3); c != nil || e != api.ErrArg {
		t.Errorf("41 blocks with a bad one: %v, %v", c, e)
	}
	chip(t, 40, 39)
}

// P4.2: a new chip is blank, lives, and had no acts; the first page of each block comes next.
func TestNewBlank(t *testing.T) {
	c := chip(t, 40, 9)
	if !c.Live() || c.Count() != 0 || c.Off() {
		t.Errorf("Live %v, Count %d, Off %v", c.Live(), c.Count(), c.Off())
	}
	for b := range 40 {
		for p := range api.BlockPages {
			holds(t, c, b, p, all(255))
			if p > 0 {
				want(t, "Program beside the first page", c.Program(b, p, all(0)), api.ErrOrder)
			}
		}
	}
	for b := range 40 {
		e := api.OK
		if b == 9 {
			e = api.ErrFailed
		}
		want(t, "Program of the first page", c.Program(b, 0, all(0)), e)
	}
	if c.Count() != 40 {
		t.Errorf("there were %d acts, not 40", c.Count())
	}
}

// P4.2: a chip may be taken out and put in; one that has died never lives again.
func TestLive(t *testing.T) {
	c := chip(t, 16)
	want(t, "Program", c.Program(0, 0, all(6)), api.OK)
	c.Put(true)
	for range 2 {
		c.Put(false)
		c.Put(false)
		if _, e := c.Read(0, 0); c.Live() || e != api.ErrDead {
			t.Errorf("a chip that is out: %v, %v", c.Live(), e)
		}
		c.Put(true)
		if !c.Live() {
			t.Error("a chip that is in again doesn't live")
		}
		holds(t, c, 0, 0, all(6))
	}
	c.Put(false)
	c.Die()
	if c.Live() {
		t.Error("a chip that has died lives")
	}
	c.Put(true)
	c.On()
	if c.Live() {
		t.Error("a chip that has died lives when it is put in")
	}
	if c.Blocks() != 16 || c.Count() != 1 {
		t.Errorf("a chip that has died: %d blocks, %d acts", c.Blocks(), c.Count())
	}
}

// P4.2: whether a chip lives has nothing to do with the power.
func TestLiveWithoutPower(t *testing.T) {
	c := chip(t, 16)
	c.Cut(0, 0)
	c.Erase(0)
	if !c.Off() || !c.Live() {
		t.Errorf("Off %v, Live %v", c.Off(), c.Live())
	}
}

// P4.3, P4.4, P4.5: which error comes first: no power, then a chip that doesn't live, then an argument, then the order.
func TestErrorsInOrder(t *testing.T) {
	nowhere := [][2]int{{-1, 0}, {16, 0}, {0, -1}, {0, 8}, {math.MinInt, math.MinInt}, {math.MaxInt, math.MaxInt}, {-1, 8}}
	c := chip(t, 16)
	check := func(what string, there, notThere, order api.Errno) {
		t.Helper()
		for _, x := range nowhere {
			p, e := c.Read(x[0], x[1])
			if e != notThere || p != (api.Page{}) {
				t.Errorf("%s: Read(%v): %v", what, x, e)
			}
			want(t, what+": Program of no page", c.Program(x[0], x[1], all(0)), notThere)
		}
		for _, b := range []int{-1, 16, 40, math.MinInt, math.MaxInt} {
			want(t, what+": Erase of no block", c.Erase(b), notThere)
		}
		if p, e := c.Read(0, 0); e != there || e != api.OK && p != (api.Page{}) {
			t.Errorf("%s: Read: %v", what, e)
		}
		want(t, what+": Program beside the next page", c.Program(0, 5, all(0)), order)
	}
	check("all well", api.OK, api.ErrArg, api.ErrOrder)
	c.Put(false)
	check("out", api.ErrDead, api.ErrDead, api.ErrDead)
	want(t, "out: Erase", c.Erase(0), api.ErrDead)
	c.Put(true)
	c.Cut(0, 0)
	c.Erase(3)
	check("off", api.ErrDown, api.ErrDown, api.ErrDown)
	c.Die()
	check("off, and dead", api.ErrDown, api.ErrDown, api.ErrDown)
	want(t, "off, and dead: Erase", c.Erase(0), api.ErrDown)
	c.On()
	check("dead", api.ErrDead, api.ErrDead, api.ErrDead)
	want(t, "dead: Erase", c.Erase(0), api.ErrDead)
	if c.Count() != 1 {
		t.Errorf("there were %d acts, not 1", c.Count())
	}
}

// P4.4: pages are written in their order, each once.
func TestProgramOrder(t *testing.T) {
	c := chip(t, 16)
	for next := range api.BlockPages {
		for page := range api.BlockPages {
			if page != next {
				want(t, "Program beside the next page", c.Program(4, page, all(0)), api.ErrOrder)
			}
		}
		want(t, "Program", c.Program(4, next, all(byte(next))), api.OK)
	}
	for page := range api.BlockPages {
		want(t, "Program of a full block", c.Program(4, page, all(0)), api.ErrOrder)
		holds(t, c, 4, page, all(byte(page)))
	}
	want(t, "Program of another block", c.Program(5, 0, all(9)), api.OK)
	holds(t, c, 3, 0, all(255))
	holds(t, c, 5, 1, all(255))
}

// P4.4: a bit that was 0 stays 0, whatever is written there.
func TestProgramClearsBits(t *testing.T) {
	c := chip(t, 16)
	for _, bit := range []int{0, 7, 8, 2047, 2048, 2063} {
		want(t, "Flip", c.Flip(1, 0, bit), api.OK)
	}
	data := all(0xb7)
	data[0], data[1], data[255], data[256], data[257] = 255, 255, 255, 255, 255
	want(t, "Program", c.Program(1, 0, data), api.OK)
	p := all(0xb7)
	p[0], p[1], p[255], p[256], p[257] = 0x7e, 0xfe, 0x7f, 0xfe, 0x7f
	holds(t, c, 1, 0, p)
}

// P4.4: of a Program in which the power ends so many bytes are kept as the Cut says; the page behind it comes next.
func TestProgramCut(t *testing.T) {
	keeps := map[int]int{math.MinInt: 0, -1: 0, 0: 0, 1: 1, 2: 2, 128: 128, 129: 129, 130: 130, 256: 256, 257: 257, 258: 258, 259: 258, math.MaxInt: 258}
	for keep, size := range keeps {
		for _, bad := range [][]int{nil, {2}} {
			c := chip(t, 16, bad...)
			c.Fail(true, 0)
			c.Cut(0, keep)
			want(t, "Program in which the power ends", c.Program(2, 0, all(0x5a)), api.ErrDown)
			if !c.Off() {
				t.Error("the power is on")
			}
			c.On()
			holds(t, c, 2, 0, torn(size, 0x5a))
			holds(t, c, 2, 1, all(255))
			want(t, "Program of the page once more", c.Program(2, 0, all(0)), api.ErrOrder)
			if bad == nil {
				want(t, "Program of the page behind it", c.Program(2, 1, all(3)), api.OK)
				holds(t, c, 2, 1, all(3))
			}
		}
	}
}

// P4.4: a Program that fails, or of a bad block, writes the first 129 bytes; the page behind it comes next.
func TestProgramFails(t *testing.T) {
	c := chip(t, 16, 6)
	c.Fail(true, 0)
	want(t, "Program that fails", c.Program(2, 0, all(0x5a)), api.ErrFailed)
	holds(t, c, 2, 0, torn(129, 0x5a))
	want(t, "Program of the page once more", c.Program(2, 0, all(0)), api.ErrOrder)
	want(t, "Program of the page behind it", c.Program(2, 1, all(1)), api.OK)
	for page := range api.BlockPages {
		want(t, "Program of a bad block", c.Program(6, page, all(0)), api.ErrFailed)
		holds(t, c, 6, page, torn(129, 0))
	}
	want(t, "Program of a bad block that is full", c.Program(6, 7, all(0)), api.ErrOrder)
	if c.Count() != 10 || c.Off() {
		t.Errorf("%d acts, Off %v", c.Count(), c.Off())
	}
}

// P4.5: an Erase gives a blank block, whatever stood there, and no other.
func TestErase(t *testing.T) {
	c := chip(t, 16)
	fillBlock(t, c, 2, 0)
	fillBlock(t, c, 3, 4)
	fillBlock(t, c, 4, 0)
	want(t, "Erase", c.Erase(3), api.OK)
	for page := range api.BlockPages {
		holds(t, c, 2, page, all(0))
		holds(t, c, 3, page, all(255))
		holds(t, c, 4, page, all(0))
	}
	want(t, "Program of another block", c.Program(2, 0, all(0)), api.ErrOrder)
	fillBlock(t, c, 3, 7)
	want(t, "Erase", c.Erase(3), api.OK)
	want(t, "Program", c.Program(3, 0, all(7)), api.OK)
	want(t, "Erase of a block that isn't full", c.Erase(3), api.OK)
	want(t, "Erase of a blank block", c.Erase(3), api.OK)
	holds(t, c, 3, 0, all(255))
	want(t, "Program beside the first page", c.Program(3, 1, all(0)), api.ErrOrder)
}

// unwritten tells of a page of the block that may be written.
func unwritten(t *testing.T, c *Chip, block int) {
	t.Helper()
	for page := range api.BlockPages {
		want(t, "Program of a block that wasn't erased", c.Program(block, page, all(0)), api.ErrOrder)
	}
}

// P4.5: of an Erase in which the power ends so many pages are kept as the Cut says; none comes next.
func TestEraseCut(t *testing.T) {
	keeps := map[int]int{math.MinInt: 0, -1: 0, 0: 0, 1: 1, 4: 4, 7: 7, 8: 8, 9: 8, 258: 8, math.MaxInt: 8}
	for keep, pages := range keeps {
		c := chip(t, 16)
		c.Fail(false, 0)
		fillBlock(t, c, 2, 1)
		c.Cut(0, keep)
		want(t, "Erase in which the power ends", c.Erase(2), api.ErrDown)
		if !c.Off() {
			t.Error("the power is on")
		}
		c.On()
		for page := range api.BlockPages {
			if page < pages {
				holds(t, c, 2, page, all(255))
			} else {
				holds(t, c, 2, page, all(1))
			}
		}
		unwritten(t, c, 2)
		want(t, "Erase once more", c.Erase(2), api.OK)
		want(t, "Program", c.Program(2, 0, all(0)), api.OK)
	}
}

// P4.5: the power that ends in the Erase of a bad block, or of a blank one.
func TestEraseCutBad(t *testing.T) {
	for _, block := range []int{6, 7} {
		c := chip(t, 16, 6)
		c.Program(6, 0, all(0))
		c.Cut(0, 1)
		want(t, "Erase in which the power ends", c.Erase(block), api.ErrDown)
		c.On()
		holds(t, c, block, 0, all(255))
		unwritten(t, c, block)
	}
}

// P4.5: an Erase that fails, or of a bad block, changes no page, and none comes next.
func TestEraseFails(t *testing.T) {
	c := chip(t, 16, 6)
	want(t, "Program", c.Program(2, 0, all(1)), api.OK)
	want(t, "Program of a bad block", c.Program(6, 0, all(1)), api.ErrFailed)
	c.Fail(false, 0)
	want(t, "Erase that fails", c.Erase(2), api.ErrFailed)
	want(t, "Erase of a bad block", c.Erase(6), api.ErrFailed)
	holds(t, c, 2, 0, all(1))
	holds(t, c, 6, 0, torn(129, 1))
	unwritten(t, c, 2)
	unwritten(t, c, 6)
	want(t, "Erase once more", c.Erase(2), api.OK)
	want(t, "Erase of a bad block once more", c.Erase(6), api.ErrFailed)
	want(t, "Program", c.Program(2, 0, all(3)), api.OK)
	if c.Count() != 7 {
		t.Errorf("there were %d acts, not 7", c.Count())
	}
}

// programs does n Programs of blank pages, and gives which of them failed.
func programs(c *Chip, block, n int) (failed []int) {
	for i := range n {
		if c.Program(block+i/api.BlockPages, i%api.BlockPages, all(255)) == api.ErrFailed {
			failed = append(failed, i)
		}
	}
	return failed
}

// erases does n Erases, and gives which of them failed.
func erases(c *Chip, n int) (failed []int) {
	for i := range n {
		if c.Erase(i%c.Blocks()) == api.ErrFailed {
			failed = append(failed, i)
		}
	}
	return failed
}

// P4.6: just those that were named fail, in whatever order and however often they were.
func TestFailWhich(t *testing.T) {
	for _, x := range []struct {
		which []int
		want  string
	}{
		{nil, "[]"},
		{[]int{0}, "[0]"},
		{[]int{1}, "[1]"},
		{[]int{0, 1, 2}, "[0 1 2]"},
		{[]int{19, 3, 3, 0, 19, 5}, "[0 3 5 19]"},
		{[]int{-1, math.MinInt, 7, math.MaxInt, 20}, "[7]"},
	} {
		c := chip(t, 16)
		c.Fail(true, x.which...)
		if got := erases(c, 20); got != nil {
			t.Errorf("Programs %v: the Erases %v", x.which, got)
		}
		if got := fmt.Sprint(programs(c, 3, 20)); got != x.want {
			t.Errorf("Programs: %s, not %s", got, x.want)
		}
		c = chip(t, 16)
		c.Fail(false, x.which...)
		if got := programs(c, 3, 20); got != nil {
			t.Errorf("Erases %v: the Programs %v", x.which, got)
		}
		if got := fmt.Sprint(erases(c, 20)); got != x.want {
			t.Errorf("Erases: %s, not %s", got, x.want)
		}
	}
}

// P4.6: a later Fail holds in place of an earlier one of its kind, counts from itself on, and leaves the other kind.
func TestFailAgain(t *testing.T) {
	c := chip(t, 16)
	c.Fail(true, 0, 1, 2, 5, 9)
	c.Fail(false, 1, 4)
	if got := fmt.Sprint(programs(c, 0, 2)); got != "[0 1]" {
		t.Errorf("the first Programs: %s", got)
	}
	if got := fmt.Sprint(erases(c, 3)); got != "[1]" {
		t.Errorf("the first Erases: %s", got)
	}
	c.Fail(true, 1)
	if got := fmt.Sprint(programs(c, 3, 16)); got != "[1]" {
		t.Errorf("the Programs behind a second Fail: %s", got)
	}
	if got := fmt.Sprint(erases(c, 3)); got != "[1]" {
		t.Errorf("the Erases behind it: %s", got)
	}
	c.Fail(true, 0, 1)
	c.Fail(true)
	c.Fail(false, 0)
	c.Fail(false, []int{}...)
	if got := programs(c, 6, 16); got != nil {
		t.Errorf("the Programs %v behind a Fail of none", got)
	}
	if got := erases(c, 16); got != nil {
		t.Errorf("the Erases %v behind a Fail of none", got)
	}
}

// P4.6: those of a bad block count, and those in which the power ends; calls that are no acts don't.
func TestFailCountsActs(t *testing.T) {
	c := chip(t, 16, 6)
	other := chipOn(t, c.Power, 16)
	c.Fail(true, 3)
	c.Fail(false, 2)
	c.Program(0, 3, all(0))
	c.Program(-1, 3, all(0))
	c.Erase(16)
	want(t, "Program of a bad block", c.Program(6, 0, all(0)), api.ErrFailed)
	want(t, "Erase of a bad block", c.Erase(6), api.ErrFailed)
	other.Program(0, 0, all(0))
	other.Erase(0)
	c.Put(false)
	c.Program(0, 0, all(0))
	c.Erase(0)
	c.Put(true)
	c.Cut(0, 0)
	want(t, "Program in which the power ends", c.Program(0, 0, all(0)), api.ErrDown)
	c.Program(0, 1, all(0))
	c.Erase(1)
	c.On()
	c.Cut(0, 0)
	want(t, "Erase in which the power ends", c.Erase(1), api.ErrDown)
	c.On()
	want(t, "the Program 2", c.Program(0, 1, all(0)), api.OK)
	want(t, "the Program 3", c.Program(0, 2, all(0)), api.ErrFailed)
	want(t, "the Program 4", c.Program(0, 3, all(0)), api.OK)
	want(t, "the Erase 2", c.Erase(0), api.ErrFailed)
	want(t, "the Erase 3", c.Erase(0), api.OK)
}

// P4.6: an act that was to fail, and in which the power ends, doesn't fail later.
func TestFailInTheCut(t *testing.T) {
	c := chip(t, 16)
	c.Fail(true, 0)
	c.Cut(0, 200)
	want(t, "Program in which the power ends", c.Program(0, 0, all(0)), api.ErrDown)
	c.On()
	holds(t, c, 0, 0, torn(200, 0))
	want(t, "the Program behind it", c.Program(0, 1, all(0)), api.OK)
}

// P4.6: Flip turns just the one bit, and back.
func TestFlip(t *testing.T) {
	c := chip(t, 16)
	want(t, "Program", c.Program(15, 0, all(0xf0)), api.OK)
	for bit := range 8 * api.PageSize {
		p := all(0xf0)
		p[bit/8] ^= 1 << (bit % 8)
		want(t, "Flip", c.Flip(15, 0, bit), api.OK)
		holds(t, c, 15, 0, p)
		want(t, "Flip", c.Flip(15, 0, bit), api.OK)
		holds(t, c, 15, 0, all(0xf0))
	}
	want(t, "Flip of a page that isn't written", c.Flip(15, 7, 8), api.OK)
	p := all(255)
	p[1] = 0xfe
	holds(t, c, 15, 7, p)
	holds(t, c, 15, 1, all(255))
	want(t, "Program behind it", c.Program(15, 1, all(0)), api.OK)
	if c.Count() != 2 {
		t.Errorf("there were %d acts, not 2", c.Count())
	}
}

// P4.6: what there is no bit of.
func TestFlipNothing(t *testing.T) {
	c := chip(t, 16)
	for _, x := range [][3]int{
		{-1, 0, 0}, {16, 0, 0}, {0, -1, 0}, {0, 8, 0}, {0, 0, -1}, {0, 0, 2064},
		{math.MinInt, 0, 0}, {math.MaxInt, 0, 0}, {0, math.MinInt, 0}, {0, math.MaxInt, 0}, {0, 0, math.MinInt}, {0, 0, math.MaxInt},
	} {
		want(t, fmt.Sprint("Flip", x), c.Flip(x[0], x[1], x[2]), api.ErrArg)
	}
	for b := range 16 {
		for p := range api.BlockPages {
			holds(t, c, b, p, all(255))
		}
	}
}

// P4.6: Flip is done without power, and on a chip that is out, and on one that has died.
func TestFlipWithoutPower(t *testing.T) {
	c := chip(t, 16)
	c.Cut(0, 0)
	c.Erase(1)
	want(t, "Flip without power", c.Flip(0, 0, 0), api.OK)
	want(t, "Flip of nothing without power", c.Flip(0, 0, 2064), api.ErrArg)
	c.On()
	p := all(255)
	p[0] = 0xfe
	holds(t, c, 0, 0, p)
	c.Put(false)
	want(t, "Flip of a chip that is out", c.Flip(0, 0, 1), api.OK)
	want(t, "Flip of nothing of a chip that is out", c.Flip(0, 8, 0), api.ErrArg)
	c.Put(true)
	p[0] = 0xfc
	holds(t, c, 0, 0, p)
	c.Die()
	want(t, "Flip of a chip that has died", c.Flip(0, 0, 1), api.OK)
	want(t, "Flip of nothing of a chip that has died", c.Flip(16, 0, 0), api.ErrArg)
}

// P4.7: what is handed in isn't changed, and may be written over; what is answered may be, too.
func TestNothingIsShared(t *testing.T) {
	bad := []int{3, 2, 3, 99, 98}
	c := chip(t, 16, bad[:3]...)
	if fmt.Sprint(bad) != "[3 2 3 99 98]" {
		t.Errorf("the bad ones were changed: %v", bad)
	}
	for i := range bad {
		bad[i] = 7
	}
	if !c.Bad(2) || !c.Bad(3) || c.Bad(7) {
		t.Error("the bad ones were kept")
	}
	which := []int{5, 0, 5, 2, 1, 1}
	c.Fail(true, which[:4]...)
	if fmt.Sprint(which) != "[5 0 5 2 1 1]" {
		t.Errorf("the failing ones were changed: %v", which)
	}
	for i := range which {
		which[i] = 1
	}
	if got := fmt.Sprint(programs(c, 8, 8)); got != "[0 2 5]" {
		t.Errorf("the Programs %s fail, not [0 2 5]", got)
	}
	data := all(1)
	want(t, "Program", c.Program(5, 0, data), api.OK)
	if data != all(1) {
		t.Error("the data were changed")
	}
	data[0] = 0
	p, _ := c.Read(5, 0)
	p[1] = 0
	holds(t, c, 5, 0, all(1))
}

// Rule 6: chips of one power share nothing but the power, and powers share nothing.
func TestApart(t *testing.T) {
	p := NewPower()
	one, two, away := chipOn(t, p, 16, 4), chipOn(t, p, 16), chip(t, 16)
	one.Program(0, 0, all(0))
	one.Fail(true, 0, 1, 2)
	one.Fail(false, 0, 1, 2)
	one.Flip(1, 0, 0)
	one.Die()
	if !two.Live() || two.Bad(4) || two.Count() != 0 {
		t.Errorf("Live %v, Bad %v, Count %d", two.Live(), two.Bad(4), two.Count())
	}
	holds(t, two, 0, 0, all(255))
	holds(t, two, 1, 0, all(255))
	want(t, "Program of the other chip", two.Program(0, 0, all(1)), api.OK)
	want(t, "Erase of the other chip", two.Erase(0), api.OK)
	two.Cut(0, 0)
	want(t, "Erase", two.Erase(0), api.ErrDown)
	if !one.Off() || away.Off() {
		t.Errorf("one power: %v, another one: %v", one.Off(), away.Off())
	}
	want(t, "Erase with other power", away.Erase(0), api.OK)
}
