package disk_test

import (
	"fmt"
	"testing"

	"keelson/api"
	"keelson/disk"
	"keelson/nand"
)

// scene is a call in which the power ends, and what goes wrong in it beside that.
type scene struct {
	name             string
	erases           bool  // an Erase of the block 5, else a Program of its page 3
	programs, failed []int // which Programs and which Erases of the chip fail
	lost             int   // how many blocks are lost behind it, at most
}

func scenes() []scene {
	return []scene{
		{"Program", false, nil, nil, 0},
		{"Program that moves", false, []int{0}, nil, 1},
		{"Program, and a spare's erase fails", false, []int{0}, []int{0}, 2},
		{"Program, and a spare's page fails", false, []int{0, 3}, nil, 2},
		{"Program, and the table's program fails", false, []int{0, 5}, nil, 1},
		{"Program, and the table's erase fails", false, []int{0}, []int{1}, 1},
		{"Program, and two spares fail", false, []int{0, 1}, []int{1}, 2},
		{"Erase", true, nil, nil, 0},
		{"Erase that moves", true, nil, []int{0}, 1},
		{"Erase, and a spare's erase fails", true, nil, []int{0, 1}, 2},
		{"Erase, and the table's program fails", true, []int{0}, []int{0}, 1},
		{"Erase, and the table's erase fails", true, nil, []int{0, 2}, 1},
	}
}

// do sets the scene on a new chip, lets the power end, and does the call.
func (s scene) do(t *testing.T, after, keep int) (*nand.Chip, *disk.Disk, api.Errno) {
	t.Helper()
	c, d := formatted(t, 20, 6)
	write(t, d, 4, record(40), record(41))
	write(t, d, 5, record(50), record(51), record(52))
	c.Flip(at(t, c, 5), 1, 77)
	for page := range api.BlockPages {
		want(t, "Program", d.Program(6, page, record(60+page)), api.OK)
	}
	c.Fail(true, s.programs...)
	c.Fail(false, s.failed...)
	c.Cut(after, keep)
	if s.erases {
		return c, d, d.Erase(5)
	}
	return c, d, d.Program(5, 3, record(53))
}

// P7.4: wherever the power goes in a call, and whatever is kept: pages that were OK are read, when Open gives the disk, and when it is used on.
func TestCutAnywhere(t *testing.T) {
	for _, s := range scenes() {
		for _, keep := range []int{-1, 0, 1, 2, 3, 4, 5, 7, 8, 100, 128, 129, 130, 252, 255, 256, 257, 258, 300} {
			for _, opens := range []bool{true, false} {
				ended := false
				for after := 0; !ended && after < 40; after++ {
					ended = s.cutOnce(t, after, keep, opens)
				}
				if !ended {
					t.Errorf("%s: it doesn't end", s.name)
				}
			}
		}
	}
}

// cutOnce cuts the power in one act of a call, and tells whether the call has no such act.
func (s scene) cutOnce(t *testing.T, after, keep int, opens bool) bool {
	c, d, e := s.do(t, after, keep)
	what := fmt.Sprintf("%s, Cut(%d, %d), opened %v", s.name, after, keep, opens)
	c.Fail(true)
	c.Fail(false)
	if e == api.OK {
		c.On()
		s.whole(t, what, d)
		s.whole(t, what, opened(t, what, c))
		return true
	}
	want(t, what, e, api.ErrDown)
	_, e = d.Read(5, 0)
	want(t, what+": Read without power", e, api.ErrDown)
	if d.Lost() > 1+s.lost {
		t.Errorf("%s: without power: Lost is %d", what, d.Lost())
	}
	c.On()
	if opens {
		d = opened(t, what, c)
	}
	s.broken(t, what, c, d)
	return false
}

// others tells of blocks that aren't as they were.
func others(t *testing.T, what string, d *disk.Disk) {
	t.Helper()
	holds(t, what, d, 4, record(40), record(41), blank(), blank())
	for page := range api.BlockPages {
		holdsAt(t, what, d, 6, page, record(60+page))
	}
}

// whole tells of a disk that isn't as a call leaves it that was OK.
func (s scene) whole(t *testing.T, what string, d *disk.Disk) {
	t.Helper()
	others(t, what, d)
	if s.erases {
		for page := range api.BlockPages {
			holdsAt(t, what, d, 5, page, blank())
		}
	} else {
		nearly(t, what, d, 5, record(50), record(51), record(52), record(53))
	}
	if d.Lost() != 1+s.lost {
		t.Errorf("%s: Lost is %d", what, d.Lost())
	}
}

// nearly tells of a block whose pages aren't those wanted, but for the bit that was turned.
func nearly(t *testing.T, what string, d *disk.Disk, block int, pages ...api.Page) {
	t.Helper()
	for i, p := range pages {
		got, e := d.Read(block, i)
		if e != api.OK || got != p && got != turn(p, 77) {
			t.Errorf("%s: Read(%d, %d): %v, or another page", what, block, i, e)
		}
	}
}

// broken tells of a disk that isn't as the power's end may leave it, and goes on with it.
func (s scene) broken(t *testing.T, what string, c *nand.Chip, d *disk.Disk) {
	t.Helper()
	others(t, what, d)
	if s.erases {
		brokenErase(t, what, d)
	} else {
		nearly(t, what, d, 5, record(50), record(51), record(52))
		anything, e := d.Read(5, 3)
		want(t, what+": the page", e, api.OK)
		for page := range api.BlockPages {
			if page != 4 {
				refused(t, what, d, 5, page, api.ErrOrder)
			}
		}
		want(t, what+": the next page", d.Program(5, 4, record(54)), api.OK)
		for _, x := range []*disk.Disk{d, opened(t, what, c)} {
			nearly(t, what, x, 5, record(50), record(51), record(52), anything, record(54))
			holdsAt(t, what, x, 5, 5, blank())
		}
	}
	// It goes on, and what goes on is there when it is opened.
	c.Fail(true, 0)
	want(t, what+": another block moves", d.Program(4, 2, record(42)), api.OK)
	want(t, what+": Erase", d.Erase(5), api.OK)
	comesNext(t, what+": Erase", d, 5, 0)
	want(t, what+": Refresh", d.Refresh(), api.OK)
	o := opened(t, what, c)
	holds(t, what, o, 4, record(40), record(41), record(42), blank())
	holds(t, what, o, 5, record(0), blank())
	if d.Lost() != o.Lost() {
		t.Errorf("%s: Lost is %d, opened %d", what, d.Lost(), o.Lost())
	}
}

// brokenErase tells of a block that isn't as an Erase may leave it in which the power ended.
func brokenErase(t *testing.T, what string, d *disk.Disk) {
	t.Helper()
	blanks := 0
	for page := range api.BlockPages {
		was := blank()
		if page < 3 {
			was = record(50 + page)
		}
		got, e := d.Read(5, page)
		if got == blank() {
			blanks++
		}
		if e != api.OK || got != blank() && got != was && got != turn(was, 77) {
			t.Errorf("%s: the page %d: %v, or neither as it was nor blank", what, page, e)
		}
	}
	for page := 1; page < api.BlockPages; page++ {
		refused(t, what, d, 5, page, api.ErrOrder)
	}
	switch e := d.Program(5, 0, record(55)); e {
	case api.OK:
		if blanks < api.BlockPages {
			t.Errorf("%s: the first page comes next, but not all are blank", what)
		}
		holdsAt(t, what, d, 5, 0, record(55))
	default:
		want(t, what+": the first page", e, api.ErrOrder)
	}
}

// P7.1, P7.4: the power goes in a Format of what was formatted ahead, or in a Refresh: Open gives the disk.
func TestCutElsewhere(t *testing.T) {
	for name, do := range map[string]func(c *nand.Chip, d *disk.Disk) api.Errno{
		"Format":  func(c *nand.Chip, d *disk.Disk) api.Errno { _, e := disk.Format(c); return e },
		"Refresh": func(c *nand.Chip, d *disk.Disk) api.Errno { return d.Refresh() },
	} {
		for _, keep := range []int{0, 1, 8, 129, 257, 258} {
			for after := 0; ; after++ {
				c, d := formatted(t, 16, 9)
				write(t, d, 3, record(0), record(1))
				turnTable(c, 5)
				c.Cut(after, keep)
				e := do(c, d)
				c.On()
				what := fmt.Sprintf("%s, Cut(%d, %d)", name, after, keep)
				o := opened(t, what, c)
				holds(t, what, o, 3, record(0), record(1), blank())
				want(t, what, o.Program(3, 2, record(2)), api.OK)
				if e == api.OK {
					break
				}
				want(t, what, e, api.ErrDown)
				want(t, what+": Refresh", d.Refresh(), api.OK)
				holds(t, what, d, 3, record(0), record(1), record(2))
			}
		}
	}
}
