package bbt

import (
	"fmt"
	"math"
	"slices"
	"testing"

	"keelson/api"
	"keelson/frame"
	"keelson/nand"
)

// plain is the chapter's table: lists of blocks.
type plain struct {
	blocks   int
	at, lost []int
}

// plainFresh gives the table that Format gives.
func plainFresh(blocks int, bad ...int) plain {
	m := plain{blocks: blocks, lost: bad}
	for block := 2; len(m.at) < blocks-6; block++ {
		if !slices.Contains(bad, block) {
			m.at = append(m.at, block)
		}
	}
	return m
}

// spares gives all spares.
func (m plain) spares() []int {
	var list []int
	for block := 2; block < m.blocks; block++ {
		if !slices.Contains(m.at, block) && !slices.Contains(m.lost, block) {
			list = append(list, block)
		}
	}
	return list
}

// lose gives the table behind a Lose.
func (m plain) lose(block int) plain {
	m.lost = append(slices.Clone(m.lost), block)
	return m
}

// swap gives the table behind a Swap.
func (m plain) swap(logical, block int) plain {
	m = m.lose(m.at[logical])
	m.at = slices.Clone(m.at)
	m.at[logical] = block
	return m
}

// tell gives all that a table tells, and its other spares, too.
func (m plain) tell() string {
	spares := m.spares()
	return fmt.Sprint(m.at, spares, len(m.lost))
}

// tell gives the same of a Table.
func tell(t *testing.T, x *Table) string {
	t.Helper()
	at, spares := []int{}, []int(nil)
	for i := range x.Len() {
		block, ok := x.At(i)
		if !ok {
			t.Errorf("At(%d): false", i)
		}
		at = append(at, block)
	}
	for block := range x.chip.Blocks() {
		if x.layout.isSpare(block) {
			spares = append(spares, block)
		}
	}
	least, ok := x.Spare()
	if ok != (len(spares) > 0) || ok && least != spares[0] || !ok && least != 0 {
		t.Errorf("Spare: %d, %v, where the spares are %v", least, ok, spares)
	}
	return fmt.Sprint(at, spares, x.Lost())
}

// same tells of a table that isn't the one wanted.
func same(t *testing.T, what string, x *Table, m plain) {
	t.Helper()
	if got := tell(t, x); got != m.tell() {
		t.Errorf("%s: %s, not %s", what, got, m.tell())
	}
}

// opens tells of a chip that doesn't keep the table wanted, and gives what it keeps.
func opens(t *testing.T, what string, c *nand.Chip, m ...plain) *Table {
	t.Helper()
	x, e := Open(c)
	if x == nil || e != api.OK {
		t.Fatalf("%s: Open: %v", what, e)
	}
	got := tell(t, x)
	for _, one := range m {
		if got == one.tell() {
			return x
		}
	}
	t.Fatalf("%s: Open gives %s, none of %v", what, got, m)
	return nil
}

// want tells of an error that isn't the one wanted.
func want(t *testing.T, what string, got, e api.Errno) {
	t.Helper()
	if got != e {
		t.Errorf("%s: %v, not %v", what, got, e)
	}
}

// none tells of a Table beside an error.
func none(t *testing.T, what string, x *Table, got, e api.Errno) {
	t.Helper()
	want(t, what, got, e)
	if x != nil {
		t.Errorf("%s: a table beside %v", what, got)
	}
}

// blank gives a blank chip with power of its own.
func blank(blocks int, bad ...int) *nand.Chip {
	c, _ := nand.New(nand.NewPower(), blocks, bad...)
	return c
}

// formatted gives a chip with a table.
func formatted(t *testing.T, blocks int, bad ...int) (*nand.Chip, *Table) {
	t.Helper()
	c := blank(blocks, bad...)
	x, e := Format(c)
	if x == nil || e != api.OK {
		t.Fatalf("Format: %v", e)
	}
	return c, x
}

// every gives the numbers of so many acts.
func every(n int) []int {
	list := make([]int, n)
	for i := range list {
		list[i] = i
	}
	return list
}

// flipAll turns one bit of each page of the table's own blocks.
func flipAll(c *nand.Chip, bit int) {
	for block := range api.Reserved {
		for page := range api.BlockPages {
			c.Flip(block, page, bit)
		}
	}
}

// pages gives all pages of a chip from a block on.
func pages(c *nand.Chip, from int) (list []api.Page) {
	for block := from; block < c.Blocks(); block++ {
		for page := range api.BlockPages {
			p, _ := c.Read(block, page)
			list = append(list, p)
		}
	}
	return list
}

// P6.1, P6.3: what Format gives, whatever the chip; and the same is opened.
func TestFormat(t *testing.T) {
	for blocks := api.MinBlocks; blocks <= api.MaxBlocks; blocks++ {
		for _, bad := range [][]int{nil, {2}, {3}, {blocks - 1}, {2, 3, 4, 5}, {2, 9, blocks - 1}, {blocks - 4, blocks - 3, blocks - 2, blocks - 1}, {7, 5}} {
			what := fmt.Sprintf("%d blocks, bad %v", blocks, bad)
			c, x := formatted(t, blocks, bad...)
			m := plainFresh(blocks, bad...)
			same(t, what, x, m)
			opens(t, what, c, m)
			if x.Len() != blocks-6 || x.Lost() != len(bad) {
				t.Errorf("%s: Len %d, Lost %d", what, x.Len(), x.Lost())
			}
		}
	}
}

// P6.1: the chapter's example, number by number.
func TestFormatExample(t *testing.T) {
	_, x := formatted(t, 16, 3)
	for i, block := range []int{2, 4, 5, 6, 7, 8, 9, 10, 11, 12} {
		if got, ok := x.At(i); got != block || !ok {
			t.Errorf("At(%d): %d, %v", i, got, ok)
		}
	}
	if spare, ok := x.Spare(); x.Len() != 10 || x.Lost() != 1 || spare != 13 || !ok {
		t.Errorf("Len %d, Lost %d, Spare %d, %v", x.Len(), x.Lost(), spare, ok)
	}
}

// P6.1: what Format refuses, in its order, with no act done.
func TestFormatRefuses(t *testing.T) {
	cases := []struct {
		bad            []int
		down, dead, in bool
		e              api.Errno
	}{
		{nil, true, false, true, api.ErrDown},
		{nil, true, true, true, api.ErrDown},
		{[]int{0}, true, false, true, api.ErrDown},
		{nil, false, true, true, api.ErrDead},
		{nil, false, false, false, api.ErrDead},
		{[]int{1}, false, true, true, api.ErrDead},
		{[]int{0}, false, false, true, api.ErrWorn},
		{[]int{1}, false, false, true, api.ErrWorn},
		{[]int{0, 1}, false, false, true, api.ErrWorn},
		{[]int{2, 3, 4, 5, 6}, false, false, true, api.ErrWorn},
		{[]int{2, 8, 9, 10, 15}, false, false, true, api.ErrWorn},
		{[]int{1, 8, 9, 10}, false, false, true, api.ErrWorn},
		{every(16), false, false, true, api.ErrWorn},
	}
	for i, k := range cases {
		c := blank(16, k.bad...)
		if k.down {
			c.Cut(0, 0)
			c.Erase(9)
		}
		if k.dead {
			c.Die()
		}
		c.Put(k.in)
		before := c.Count()
		x, e := Format(c)
		none(t, fmt.Sprintf("case %d", i), x, e, k.e)
		if c.Count() != before {
			t.Errorf("case %d: %d acts", i, c.Count()-before)
		}
	}
}

// P6.1: a chip that had a table gets a new one, in which only the Bad blocks are lost.
func TestFormatAnew(t *testing.T) {
	c, x := formatted(t, 20, 4)
	want(t, "Swap", x.Swap(3, 19), api.OK)
	want(t, "Lose", x.Lose(18), api.OK)
	for range 5 {
		y, e := Format(c)
		if y == nil || e != api.OK {
			t.Fatalf("Format: %v", e)
		}
		same(t, "Format anew", y, plainFresh(20, 4))
		opens(t, "Format anew", c, plainFresh(20, 4))
	}
}

// P6.1: ErrWorn and nil, if the table can't be kept; an elder one stays.
func TestFormatWorn(t *testing.T) {
	for _, programs := range []bool{true, false} {
		c := blank(16)
		c.Fail(programs, every(1000)...)
		x, e := Format(c)
		none(t, "Format", x, e, api.ErrWorn)
		c.Fail(programs)
		x, e = Open(c)
		none(t, "Open", x, e, api.ErrNoLog)
		x, e = Format(c)
		want(t, "Format behind a worn one", e, api.OK)
		want(t, "Swap", x.Swap(2, 12), api.OK)
		c.Fail(programs, every(1000)...)
		y, e := Format(c)
		none(t, "Format", y, e, api.ErrWorn)
		opens(t, "behind a worn Format", c, plainFresh(16).swap(2, 12), plainFresh(16))
	}
}

// The blocks 0 and 1 are the table's own: nothing is done to the others.
func TestOtherBlocksStay(t *testing.T) {
	c := blank(16, 5)
	for block := 2; block < 16; block++ {
		for page := range block % 8 {
			c.Program(block, page, api.Page{byte(block), byte(page)})
		}
	}
	before := pages(c, 2)
	x, e := Format(c)
	want(t, "Format", e, api.OK)
	want(t, "Swap", x.Swap(1, 15), api.OK)
	want(t, "Lose", x.Lose(14), api.OK)
	flipAll(c, 3)
	want(t, "Refresh", x.Refresh(), api.OK)
	opens(t, "Open", c, plainFresh(16, 5).swap(1, 15).lose(14))
	if !slices.Equal(before, pages(c, 2)) {
		t.Error("a block that isn't the table's own was written or erased")
	}
	for block := 2; block < 16; block++ {
		want(t, "Program of the page that comes next", c.Program(block, block%8, api.Page{}), map[bool]api.Errno{true: api.ErrFailed}[block == 5])
	}
}

// P6.2: a chip without power, a dead one, one without a table: ErrNoLog and nil.
func TestOpenErrors(t *testing.T) {
	c := blank(16)
	x, e := Open(c)
	none(t, "blank", x, e, api.ErrNoLog)
	c, _ = formatted(t, 16)
	c.Put(false)
	x, e = Open(c)
	none(t, "out", x, e, api.ErrDead)
	c.Put(true)
	opens(t, "in again", c, plainFresh(16))
	c.Cut(0, 0)
	c.Erase(9)
	x, e = Open(c)
	none(t, "no power", x, e, api.ErrDown)
	c.Die()
	x, e = Open(c)
	none(t, "no power, and dead", x, e, api.ErrDown)
	c.On()
	x, e = Open(c)
	none(t, "dead", x, e, api.ErrDead)
}

// P6.2: what isn't a table of this chip is none, whatever record it is.
func TestOpenForeign(t *testing.T) {
	other, _ := formatted(t, 17)
	k, _ := look(other)
	_, right, _, _ := frame.Read(k.page)
	bodies := [][]byte{nil, {1}, right[:8], right[:9], right[:len(right)-1], right}
	c, _ := formatted(t, 16)
	k, _ = look(c)
	_, right, _, _ = frame.Read(k.page)
	bodies = append(bodies, right[:len(right)-1], append(slices.Clone(right), 0), append(slices.Clone(right), 11), append(slices.Clone(right), 12, 12), append(slices.Clone(right), 16), append(slices.Clone(right), 255), make([]byte, 240))
	for i := range right[8:] {
		for _, b := range []byte{0, 1, right[len(right)-1-i%2], 16, 17, 40, 255} {
			if body := slices.Clone(right); body[8+i] != b {
				body[8+i] = b
				bodies = append(bodies, body)
			}
		}
	}
	for i, body := range bodies {
		c := blank(16)
		p, e := frame.Write(api.KindTable, body)
		want(t, "Write", e, api.OK)
		c.Program(i%2, 0, p)
		before := c.Count()
		x, e := Open(c)
		none(t, fmt.Sprintf("the body %v", body), x, e, api.ErrNoLog)
		if c.Count() != before {
			t.Error("Open did an act")
		}
		x, e = Format(c)
		want(t, "Format", e, api.OK)
		same(t, "Format", x, plainFresh(16))
		opens(t, "Format", c, plainFresh(16))
	}
	c = blank(16)
	p, _ := frame.Write(api.KindNode, right)
	c.Program(0, 0, p)
	x, e := Open(c)
	none(t, "another kind", x, e, api.ErrNoLog)
}

// P6.2: a table that can't be read is none; no elder one comes in its place.
func TestOpenUnreadable(t *testing.T) {
	c, x := formatted(t, 16)
	for i, change := range []func() api.Errno{func() api.Errno { return api.OK }, func() api.Errno { return x.Lose(12) }, func() api.Errno { return x.Swap(4, 13) }} {
		want(t, "change", change(), api.OK)
		flipAll(c, 100)
		flipAll(c, 900)
		y, e := Open(c)
		none(t, fmt.Sprintf("change %d: two bits turned", i), y, e, api.ErrNoLog)
		want(t, "Refresh", x.Refresh(), api.OK)
	}
	opens(t, "behind Refresh", c, plainFresh(16).lose(12).swap(4, 13))
}

// P6.2: the table that was kept last is opened, behind any number of changes; Open does no act.
func TestOpenLast(t *testing.T) {
	c, x := formatted(t, 40, 7)
	m := plainFresh(40, 7)
	for round := range 12 {
		if spare, ok := x.Spare(); ok && round%2 == 0 {
			want(t, "Swap", x.Swap(round, spare), api.OK)
			m = m.swap(round, spare)
		} else if ok {
			want(t, "Lose", x.Lose(spare), api.OK)
			m = m.lose(spare)
		} else {
			x, _ = Format(c)
			m = plainFresh(40, 7)
		}
		before := c.Count()
		x = opens(t, fmt.Sprintf("round %d", round), c, m)
		if c.Count() != before {
			t.Error("Open did an act")
		}
	}
}

// P6.3: what is no logical block has none of the chip's; without spares there is none.
func TestOutside(t *testing.T) {
	for blocks := api.MinBlocks; blocks <= api.MaxBlocks; blocks++ {
		_, x := formatted(t, blocks)
		for _, i := range []int{math.MinInt, -1, blocks - 6, blocks, 33 + 7, 255, 256, math.MaxInt} {
			if block, ok := x.At(i); block != 0 || ok {
				t.Errorf("%d blocks: At(%d): %d, %v", blocks, i, block, ok)
			}
		}
		for range 4 {
			spare, ok := x.Spare()
			if !ok {
				t.Fatalf("%d blocks: no spare", blocks)
			}
			want(t, "Lose", x.Lose(spare), api.OK)
		}
		if spare, ok := x.Spare(); spare != 0 || ok || x.Lost() != 4 {
			t.Errorf("%d blocks: Spare %d, %v, Lost %d", blocks, spare, ok, x.Lost())
		}
	}
}

// P6.4: Lose takes spares, each of them once, and nothing else.
func TestLose(t *testing.T) {
	c, x := formatted(t, 16, 3, 14)
	m := plainFresh(16, 3, 14)
	for _, block := range []int{math.MinInt, -1, 0, 1, 2, 3, 4, 12, 14, 16, 17, 40, 256 + 13, math.MaxInt} {
		before := c.Count()
		want(t, fmt.Sprintf("Lose(%d)", block), x.Lose(block), api.ErrArg)
		if c.Count() != before {
			t.Errorf("Lose(%d) did an act", block)
		}
		same(t, fmt.Sprintf("Lose(%d)", block), x, m)
	}
	for _, block := range []int{15, 13} {
		want(t, "Lose", x.Lose(block), api.OK)
		m = m.lose(block)
		same(t, "Lose", x, m)
		opens(t, "Lose", c, m)
		want(t, "Lose again", x.Lose(block), api.ErrArg)
	}
}

// P6.4: Swap takes a logical block and a spare; the block that it had is lost.
func TestSwap(t *testing.T) {
	c, x := formatted(t, 16, 3)
	m := plainFresh(16, 3)
	wrong := [][2]int{{-1, 13}, {10, 13}, {math.MinInt, 13}, {math.MaxInt, 13}, {0, 0}, {0, 1}, {0, 2}, {0, 3}, {0, 12}, {0, 16}, {0, -1}, {0, math.MaxInt}, {0, math.MinInt}, {10, 16}, {0, 256 + 13}}
	for _, k := range wrong {
		before := c.Count()
		want(t, fmt.Sprintf("Swap(%d, %d)", k[0], k[1]), x.Swap(k[0], k[1]), api.ErrArg)
		if c.Count() != before {
			t.Errorf("Swap(%d, %d) did an act", k[0], k[1])
		}
		same(t, "Swap", x, m)
	}
	for _, k := range [][2]int{{9, 13}, {0, 15}, {9, 14}} {
		want(t, "Swap", x.Swap(k[0], k[1]), api.OK)
		m = m.swap(k[0], k[1])
		same(t, "Swap", x, m)
		opens(t, "Swap", c, m)
		want(t, "Swap again", x.Swap(k[0], k[1]), api.ErrArg)
	}
	// What was lost, by a Swap too, is no spare.
	for _, block := range []int{12, 2, 13} {
		want(t, "Swap to a lost one", x.Swap(1, block), api.ErrArg)
		want(t, "Lose of a lost one", x.Lose(block), api.ErrArg)
	}
}

// P6.4: what is handed in wrongly is told ahead of a chip that doesn't answer.
func TestErrArgFirst(t *testing.T) {
	c, x := formatted(t, 16)
	c.Die()
	want(t, "Lose", x.Lose(2), api.ErrArg)
	want(t, "Swap", x.Swap(10, 12), api.ErrArg)
	want(t, "Swap", x.Swap(0, 0), api.ErrArg)
}

// P6.4: with an error the table tells the elder one.
func TestErrorsTellElder(t *testing.T) {
	bend := map[api.Errno]func(c *nand.Chip){
		api.ErrDead: func(c *nand.Chip) { c.Put(false) },
		api.ErrDown: func(c *nand.Chip) { c.Cut(0, 0); c.Erase(9) },
		api.ErrWorn: func(c *nand.Chip) { c.Fail(true, every(1000)...) },
	}
	for e, how := range bend {
		c, x := formatted(t, 16)
		want(t, "Swap", x.Swap(1, 12), api.OK)
		m := plainFresh(16).swap(1, 12)
		flipAll(c, 9)
		how(c)
		want(t, "Lose", x.Lose(14), e)
		same(t, "Lose", x, m)
		want(t, "Swap", x.Swap(2, 14), e)
		same(t, "Swap", x, m)
		want(t, "Refresh", x.Refresh(), e)
		same(t, "Refresh", x, m)
		c.On()
		c.Put(true)
		c.Fail(true)
		opens(t, "behind the errors", c, m, m.lose(14), m.swap(2, 14))
		// The same table may be used on.
		want(t, "Lose", x.Lose(13), api.OK)
		opens(t, "used on", c, m.lose(13))
	}
}

// P6.4: ErrWorn in the last erase, too, leaves the elder table or the new one; and a later call mends it.
func TestWornErases(t *testing.T) {
	for first := range 30 {
		c, x := formatted(t, 16)
		c.Fail(false, every(1000)[first:]...)
		m := plainFresh(16)
		for e := api.OK; e == api.OK; {
			spare, ok := x.Spare()
			if !ok {
				x, e = Format(c)
				continue
			}
			elder := plain{16, atOf(x), lostOf(x)}
			m = elder.lose(spare)
			e = x.Lose(spare)
			if e != api.OK {
				want(t, "Lose", e, api.ErrWorn)
				same(t, "behind ErrWorn", x, elder)
				opens(t, "behind ErrWorn", c, elder, m)
				c.Fail(false)
				want(t, "Lose at last", x.Lose(spare), api.OK)
				opens(t, "Lose at last", c, m)
			}
		}
	}
}

// atOf gives the logical blocks' blocks.
func atOf(x *Table) (list []int) {
	for i := range x.Len() {
		block, _ := x.At(i)
		list = append(list, block)
	}
	return list
}

// lostOf gives the lost blocks.
func lostOf(x *Table) (list []int) {
	for block := 2; block < x.chip.Blocks(); block++ {
		if !x.layout.isSpare(block) && !slices.Contains(atOf(x), block) {
			list = append(list, block)
		}
	}
	return list
}

// P6.4: Refresh does nothing, if nothing must be mended; else the table is kept anew, whichever bit of its page it is.
func TestRefresh(t *testing.T) {
	c, x := formatted(t, 20, 6)
	want(t, "Swap", x.Swap(3, 19), api.OK)
	m := plainFresh(20, 6).swap(3, 19)
	for bit := range 8 * api.PageSize {
		before := c.Count()
		want(t, "Refresh", x.Refresh(), api.OK)
		if c.Count() != before {
			t.Fatalf("bit %d: Refresh of what is as it was written did %d acts", bit, c.Count()-before)
		}
		flipAll(c, bit)
		opens(t, fmt.Sprintf("the bit %d turned", bit), c, m)
		want(t, "Refresh", x.Refresh(), api.OK)
		if c.Count() == before {
			t.Fatalf("bit %d: Refresh did nothing", bit)
		}
		k, e := look(c)
		if _, _, mended, _ := frame.Read(k.page); e != api.OK || mended != 0 {
			t.Fatalf("bit %d: behind Refresh: %v, %d to be mended", bit, e, mended)
		}
		opens(t, fmt.Sprintf("the bit %d refreshed", bit), c, m)
	}
}

// P6.4: Refresh keeps a table anew that can't be read any more.
func TestRefreshUnreadable(t *testing.T) {
	for bits := 2; bits < 40; bits++ {
		c, x := formatted(t, 16)
		want(t, "Lose", x.Lose(15), api.OK)
		for i := range bits {
			flipAll(c, 50*i+7)
		}
		want(t, "Refresh", x.Refresh(), api.OK)
		same(t, "Refresh", x, plainFresh(16).lose(15))
		opens(t, "Refresh", c, plainFresh(16).lose(15))
	}
	c, x := formatted(t, 16)
	c.Erase(0)
	c.Erase(1)
	want(t, "Refresh", x.Refresh(), api.OK)
	opens(t, "erased and refreshed", c, plainFresh(16))
}

// P6.6, and rule 6: tables of two chips are by themselves; one of a chip sees what was kept by another one only when it is opened.
func TestByThemselves(t *testing.T) {
	p := nand.NewPower()
	one, _ := nand.New(p, 16)
	two, _ := nand.New(p, 16)
	x, _ := Format(one)
	y, _ := Format(two)
	want(t, "Lose", x.Lose(12), api.OK)
	want(t, "Swap", y.Swap(0, 13), api.OK)
	z := opens(t, "one", one, plainFresh(16).lose(12))
	opens(t, "two", two, plainFresh(16).swap(0, 13))
	want(t, "Lose", x.Lose(13), api.OK)
	same(t, "opened ahead", z, plainFresh(16).lose(12))
}
