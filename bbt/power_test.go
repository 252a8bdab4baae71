package bbt

import (
	"fmt"
	"testing"

	"keelson/api"
	"keelson/nand"
)

// call is one of the calls that keep a table, and the table behind it.
type call struct {
	name string
	do   func(c *nand.Chip, x *Table) api.Errno
	then func(m plain) plain
}

// calls gives all of them; 17 is a spare in all states.
func calls() []call {
	return []call{
		{"Lose", func(c *nand.Chip, x *Table) api.Errno { return x.Lose(17) }, func(m plain) plain { return m.lose(17) }},
		{"Swap", func(c *nand.Chip, x *Table) api.Errno { return x.Swap(5, 17) }, func(m plain) plain { return m.swap(5, 17) }},
		{"Refresh", func(c *nand.Chip, x *Table) api.Errno { return x.Refresh() }, func(m plain) plain { return m }},
		{"Format", func(c *nand.Chip, x *Table) api.Errno { _, e := Format(c); return e }, func(m plain) plain { return plainFresh(18, 9) }},
	}
}

// state is what a chip may have gone through ahead of a call.
type state struct {
	name string
	bend func(c *nand.Chip, x *Table)
}

// broken lets a Swap break off in one of its acts.
func broken(after, keep int) func(c *nand.Chip, x *Table) {
	return func(c *nand.Chip, x *Table) {
		c.Cut(after, keep)
		x.Swap(7, 15)
		c.On()
	}
}

func states() []state {
	return []state{
		{"formatted", func(c *nand.Chip, x *Table) {}},
		{"changed", func(c *nand.Chip, x *Table) { x.Lose(14) }},
		{"erase broken off", broken(0, 8)},
		{"erase broken off at once", broken(0, 0)},
		{"torn", broken(1, 257)},
		{"torn at once", broken(1, 0)},
		{"written", broken(1, 258)},
		{"both", broken(2, 0)},
		{"both, and programs fail", func(c *nand.Chip, x *Table) { broken(2, 0)(c, x); c.Fail(true, 0, 1) }},
		{"elder erased", broken(2, 8)},
		{"a bit turned", func(c *nand.Chip, x *Table) { flipAll(c, 2058) }},
		{"both, and a bit turned", func(c *nand.Chip, x *Table) { broken(2, 0)(c, x); flipAll(c, 77) }},
		{"programs fail", func(c *nand.Chip, x *Table) { c.Fail(true, 0, 1) }},
		{"erases fail", func(c *nand.Chip, x *Table) { c.Fail(false, 0, 1) }},
		{"both kinds fail", func(c *nand.Chip, x *Table) { c.Fail(false, 1); c.Fail(true, 0) }},
		{"a program failed ahead", func(c *nand.Chip, x *Table) { c.Fail(true, 0); x.Swap(7, 15) }},
		{"a program and an erase failed ahead", func(c *nand.Chip, x *Table) { c.Fail(true, 0); c.Fail(false, 1); x.Swap(7, 15) }},
	}
}

// in gives a chip in a state, and its table as it is opened then.
func (s state) in(t *testing.T) (*nand.Chip, *Table, plain) {
	t.Helper()
	c, x := formatted(t, 18, 9)
	s.bend(c, x)
	x, e := Open(c)
	if e != api.OK {
		t.Fatalf("%s: Open: %v", s.name, e)
	}
	return c, x, plain{18, atOf(x), lostOf(x)}
}

// P6.5: wherever the power ends in a call, and whatever is kept, the elder table or the new one is opened, and goes on.
func TestCutAnywhere(t *testing.T) {
	keeps := []int{-1, 300}
	for keep := range api.PageSize + 1 {
		if keep < 14 || keep > 244 || keep%16 == 0 || keep == 129 {
			keeps = append(keeps, keep)
		}
	}
	for _, s := range states() {
		for _, k := range calls() {
			for _, keep := range keeps {
				ended := false
				for after := 0; !ended && after < 20; after++ {
					ended = cutOnce(t, s, k, after, keep)
				}
				if !ended {
					t.Errorf("%s, %s: it doesn't end", s.name, k.name)
				}
			}
		}
	}
}

// cutOnce cuts the power in one act of a call, and tells whether the call has no such act.
func cutOnce(t *testing.T, s state, k call, after, keep int) bool {
	c, x, m := s.in(t)
	what := fmt.Sprintf("%s, %s, Cut(%d, %d)", s.name, k.name, after, keep)
	c.Cut(after, keep)
	e := k.do(c, x)
	if e == api.OK {
		c.On()
		opens(t, what, c, k.then(m))
		return true
	}
	want(t, what, e, api.ErrDown)
	same(t, what, x, m)
	if y, e := Open(c); y != nil || e != api.ErrDown {
		t.Errorf("%s: Open without power: %v", what, e)
	}
	c.On()
	y := opens(t, what, c, m, k.then(m))
	got := tell(t, y)
	if again := opens(t, what, c, m, k.then(m)); tell(t, again) != got {
		t.Errorf("%s: opened again: %s, not %s", what, tell(t, again), got)
	}
	next := plain{18, atOf(y), lostOf(y)}
	want(t, what+": Refresh", y.Refresh(), api.OK)
	opens(t, what+": Refresh", c, next)
	spare, _ := y.Spare()
	want(t, what+": Lose", y.Lose(spare), api.OK)
	opens(t, what+": Lose", c, next.lose(spare))
	return false
}

// P6.4, P6.5: a table that is used on behind ErrDown, without being opened anew, never lets all tables be gone.
func TestUsedOnBehindCut(t *testing.T) {
	for first := range 3 {
		for second := range 4 {
			for _, keeps := range [][2]int{{0, 0}, {0, 8}, {8, 0}, {8, 8}, {258, 0}, {258, 100}, {258, 258}, {100, 258}} {
				c, x := formatted(t, 18)
				m := plainFresh(18)
				what := fmt.Sprintf("acts %d, %d, kept %v", first, second, keeps)
				c.Cut(first, keeps[0])
				want(t, what, x.Swap(0, 14), api.ErrDown)
				c.On()
				same(t, what, x, m)
				c.Cut(second, keeps[1])
				e := x.Lose(15)
				c.On()
				if e == api.OK {
					opens(t, what, c, m.lose(15))
					continue
				}
				want(t, what, e, api.ErrDown)
				opens(t, what, c, m, m.swap(0, 14), m.lose(15))
				// What the table tells is what is kept, once a Refresh is OK.
				want(t, what, x.Refresh(), api.OK)
				same(t, what, x, m)
				opens(t, what, c, m)
			}
		}
	}
}

// P6.5: two Programs or Erases that fail, whichever, let no call answer ErrWorn.
func TestTwoFailures(t *testing.T) {
	const acts = 20
	for one := range 2 * acts {
		for two := range one + 1 {
			var programs, erases []int
			for _, i := range []int{one, two} {
				if i < acts {
					programs = append(programs, i)
				} else {
					erases = append(erases, i-acts)
				}
			}
			what := fmt.Sprintf("programs %v, erases %v fail", programs, erases)
			c := blank(18, 9)
			c.Fail(true, programs...)
			c.Fail(false, erases...)
			x, e := Format(c)
			if e != api.OK {
				t.Fatalf("%s: Format: %v", what, e)
			}
			m := plainFresh(18, 9)
			opens(t, what, c, m)
			for _, k := range calls() {
				flipAll(c, 1000)
				x = opens(t, what, c, m)
				want(t, what+": "+k.name, k.do(c, x), api.OK)
				opens(t, what+": "+k.name, c, k.then(m))
				// The next call needs the same spares.
				x, e = Format(c)
				want(t, what+": Format", e, api.OK)
				same(t, what, x, m)
			}
		}
	}
}

// P6.5: bits may turn without end, one of a page between two Refreshes.
func TestBitsTurn(t *testing.T) {
	c, x := formatted(t, 18)
	m := plainFresh(18)
	for round := range 400 {
		for page := range 2 * api.BlockPages {
			c.Flip(page/8, page%8, (round*977+page*331)%(8*api.PageSize))
		}
		what := fmt.Sprintf("round %d", round)
		y := opens(t, what, c, m)
		if round%40 == 7 {
			// A change may stand between two Refreshes, too.
			if spare, ok := y.Spare(); ok {
				want(t, what, y.Lose(spare), api.OK)
				m = m.lose(spare)
				x = y
			}
		}
		want(t, what, x.Refresh(), api.OK)
		opens(t, what, c, m)
	}
}

// P6.5: what was opened behind a cut stays so, though bits turn that make the torn page whole, one between two Refreshes.
func TestTornPageMadeWhole(t *testing.T) {
	for keep := 252; keep <= api.PageSize; keep++ {
		c, x := formatted(t, 18)
		m := plainFresh(18)
		k, _ := look(c)
		l := x.layout
		l.lost[15] = true
		whole := write(k.number+1, l)
		c.Cut(1, keep)
		want(t, "Lose", x.Lose(15), api.ErrDown)
		c.On()
		x = opens(t, "cut", c, m)
		block := 1 - k.block
		for bit := range 8 * api.PageSize {
			p, _ := c.Read(block, 0)
			if (p[bit/8]^whole[bit/8])>>(bit%8)&1 == 1 {
				c.Flip(block, 0, bit)
				opens(t, fmt.Sprintf("%d bytes kept, the bit %d", keep, bit), c, m)
				want(t, "Refresh", x.Refresh(), api.OK)
			}
		}
		if p, _ := c.Read(block, 0); p != whole {
			t.Fatalf("%d bytes kept: the page isn't whole: this tests nothing", keep)
		}
		opens(t, fmt.Sprintf("%d bytes kept, whole", keep), c, m)
		want(t, "Lose", x.Lose(16), api.OK)
		opens(t, fmt.Sprintf("%d bytes kept, changed", keep), c, m.lose(16))
	}
}

// P1: calls end, whatever fails: all acts of a chip.
func TestAllFails(t *testing.T) {
	for kinds := 1; kinds < 4; kinds++ {
		c, x := formatted(t, 16)
		m := plainFresh(16)
		if kinds&1 != 0 {
			c.Fail(true, every(10000)...)
		}
		if kinds&2 != 0 {
			c.Fail(false, every(10000)...)
		}
		flipAll(c, 5)
		want(t, "Lose", x.Lose(12), api.ErrWorn)
		want(t, "Swap", x.Swap(0, 12), api.ErrWorn)
		want(t, "Refresh", x.Refresh(), api.ErrWorn)
		same(t, "all fails", x, m)
		opens(t, "all fails", c, m)
	}
}

// P6.5: an elder table that stands beside the new one is never opened once a call was OK: the chip has one table.
func TestOneTable(t *testing.T) {
	for _, s := range states() {
		for _, k := range calls() {
			c, x, m := s.in(t)
			want(t, s.name+", "+k.name, k.do(c, x), api.OK)
			if k.name == "Refresh" {
				// It may have had nothing to do.
				continue
			}
			kept := map[string]int{}
			for _, p := range pages(c, 0)[:2*api.BlockPages] {
				if _, l, ok := read(18, p); ok {
					kept[tell(t, &Table{chip: c, layout: l})]++
				}
			}
			if len(kept) != 1 || kept[k.then(m).tell()] == 0 {
				t.Errorf("%s, %s: tables that can be read: %v", s.name, k.name, kept)
			}
		}
	}
}
