package nand

import (
	"fmt"
	"math"
	"math/rand"
	"slices"
	"strings"
	"testing"

	"keelson/api"
)

// plainPower is the chapter's power: how many acts there were, and in which the power ends (-1: in none).
type plainPower struct {
	off             bool
	acts, end, keep int
}

// plainChip is the chapter's chip, bit by bit.
type plainChip struct {
	power     *plainPower
	bits      [][api.BlockPages][8 * api.PageSize]bool
	next      []int
	bad       []bool
	out, dead bool
	count     int
	kinds     map[bool]int   // how many acts of each kind there were
	fails     map[bool][]int // those of each kind that fail
}

func newPlain(p *plainPower, blocks int, bad ...int) *plainChip {
	c := &plainChip{power: p, bits: make([][api.BlockPages][8 * api.PageSize]bool, blocks), next: make([]int, blocks), bad: make([]bool, blocks)}
	c.kinds, c.fails = map[bool]int{}, map[bool][]int{}
	for b := range c.bits {
		c.bad[b] = slices.Contains(bad, b)
		for page := range c.bits[b] {
			c.blank(b, page)
		}
	}
	return c
}

func (c *plainChip) blank(block, page int) {
	for i := range c.bits[block][page] {
		c.bits[block][page][i] = true
	}
}

func (c *plainChip) page(block, page int) (p api.Page) {
	for i, one := range c.bits[block][page] {
		if one {
			p[i/8] |= 1 << (i % 8)
		}
	}
	return p
}

// err gives the errors that Read, Program and Erase have in common.
func (c *plainChip) err(block, page int) api.Errno {
	if c.power.off {
		return api.ErrDown
	}
	if c.out || c.dead {
		return api.ErrDead
	}
	if block < 0 || block >= len(c.bits) || page < 0 || page > 7 {
		return api.ErrArg
	}
	return api.OK
}

// act counts an act, and gives how it ends.
func (c *plainChip) act(programs bool, block int) api.Errno {
	fails := c.bad[block] || slices.Contains(c.fails[programs], c.kinds[programs])
	ends := c.power.acts == c.power.end
	c.count++
	c.kinds[programs]++
	c.power.acts++
	if ends {
		c.power.off = true
		return api.ErrDown
	}
	if fails {
		return api.ErrFailed
	}
	return api.OK
}

func (c *plainChip) program(block, page int, data api.Page) api.Errno {
	if e := c.err(block, page); e != api.OK {
		return e
	}
	if c.next[block] != page {
		return api.ErrOrder
	}
	c.next[block] = page + 1
	e := c.act(true, block)
	size := map[api.Errno]int{api.OK: 258, api.ErrFailed: 129, api.ErrDown: c.power.keep}[e]
	for i := range c.bits[block][page] {
		if i/8 < size && data[i/8]>>(i%8)&1 == 0 {
			c.bits[block][page][i] = false
		}
	}
	return e
}

func (c *plainChip) erase(block int) api.Errno {
	if e := c.err(block, 0); e != api.OK {
		return e
	}
	e := c.act(false, block)
	c.next[block] = 8
	if e == api.OK {
		c.next[block] = 0
	}
	pages := map[api.Errno]int{api.OK: 8, api.ErrFailed: 0, api.ErrDown: c.power.keep}[e]
	for page := range c.bits[block] {
		if page < pages {
			c.blank(block, page)
		}
	}
	return e
}

// cut is Cut.
func (p *plainPower) cut(after, keep int) {
	p.end, p.keep = -1, keep
	if after >= 0 {
		p.end = p.acts + after
	}
}

// on is On.
func (p *plainPower) on() { p.off, p.end = false, -1 }

// pair is a chip and the chapter's chip in its place.
type pair struct {
	c *Chip
	m *plainChip
}

// same tells of anything in which the two differ.
func (x pair) same(t *testing.T, step int) {
	t.Helper()
	if x.c.Count() != x.m.count || x.c.Off() != x.m.power.off || x.c.Live() == (x.m.out || x.m.dead) || x.c.Blocks() != len(x.m.bits) {
		t.Fatalf("the step %d: Count %d, not %d; Off %v, not %v; Live %v", step, x.c.Count(), x.m.count, x.c.Off(), x.m.power.off, x.c.Live())
	}
	for b := range x.m.bits {
		if x.c.Bad(b) != x.m.bad[b] {
			t.Fatalf("the step %d: Bad(%d)", step, b)
		}
	}
}

// samePages tells of a page in which the two differ; all are read, if the power and the chip let them.
func (x pair) samePages(t *testing.T, step int) {
	t.Helper()
	for b := range x.m.bits {
		for page := range api.BlockPages {
			got, e := x.c.Read(b, page)
			p, f := x.m.page(b, page), x.m.err(b, page)
			if f != api.OK {
				p = api.Page{}
			}
			if got != p || e != f {
				t.Fatalf("the step %d: the page %d of the block %d: %x, %v, not %x, %v", step, page, b, got, e, p, f)
			}
		}
	}
}

// write programs a page of either: mostly the next one of a block.
func (x pair) write(r *rand.Rand) (got, e api.Errno) {
	b := r.Intn(18) - 1
	page := r.Intn(10) - 1
	if r.Intn(8) > 0 && b >= 0 && b < 16 {
		page = x.m.next[b]
	}
	var p api.Page
	for i := range p {
		p[i] = byte(r.Intn(256))
	}
	return x.c.Program(b, page, p), x.m.program(b, page, p)
}

// turn is Flip of either.
func (x pair) turn(r *rand.Rand) (got, e api.Errno) {
	b, page, bit := r.Intn(18)-1, r.Intn(10)-1, r.Intn(2070)-3
	got = x.c.Flip(b, page, bit)
	if b < 0 || b >= 16 || page < 0 || page >= 8 || bit < 0 || bit >= 2064 {
		return got, api.ErrArg
	}
	x.m.bits[b][page][bit] = !x.m.bits[b][page][bit]
	return got, api.OK
}

// fail is Fail of either.
func (x pair) fail(r *rand.Rand) {
	programs := r.Intn(2) == 0
	x.m.fails[programs] = nil
	var which []int
	for range r.Intn(5) {
		n := r.Intn(20) - 2
		which = append(which, n)
		if n >= 0 {
			x.m.fails[programs] = append(x.m.fails[programs], x.m.kinds[programs]+n)
		}
	}
	x.c.Fail(programs, which...)
}

// P4.1 to P4.6, all together: whatever becomes of two chips of one power, they are as the chapter says.
func TestAsTheChapterSays(t *testing.T) {
	for seed := range 12 {
		r := rand.New(rand.NewSource(int64(seed)))
		p, q := NewPower(), &plainPower{end: -1}
		bad := []int{r.Intn(16), r.Intn(16)}
		pairs := []pair{{chipOn(t, p, 16, bad...), newPlain(q, 16, bad...)}, {chipOn(t, p, 16), newPlain(q, 16)}}
		for step := range 3000 {
			x := pairs[r.Intn(2)]
			got, e := api.OK, api.OK
			switch r.Intn(30) {
			case 0:
				after, keep := r.Intn(20)-2, r.Intn(300)-10
				x.c.Cut(after, keep)
				q.cut(after, keep)
			case 1, 2, 3:
				p.On()
				q.on()
			case 4:
				in := r.Intn(3) > 0
				x.c.Put(in)
				x.m.out = !in
			case 5:
				x.fail(r)
			case 6, 7:
				got, e = x.turn(r)
			case 8, 9, 10, 11:
				b := r.Intn(18) - 1
				got, e = x.c.Erase(b), x.m.erase(b)
			default:
				got, e = x.write(r)
			}
			if step == 2900 {
				x.c.Die()
				x.m.dead = true
			}
			if got != e {
				t.Fatalf("the seed %d, the step %d: %v, not %v", seed, step, got, e)
			}
			x.same(t, step)
			if step%100 == 0 {
				x.samePages(t, step)
			}
		}
	}
}

// wild calls everything with numbers of all kinds, and gives all that was answered.
func wild() string {
	numbers := []int{math.MinInt, math.MinInt32, -2, -1, 0, 1, 7, 8, 15, 16, 40, 257, 258, 2063, 2064, math.MaxInt32, math.MaxInt}
	var told strings.Builder
	p := NewPower()
	c, _ := New(p, 40, 3)
	for _, i := range numbers {
		d, e := New(p, i, i)
		fmt.Fprintln(&told, d == nil, e, c.Bad(i), c.Erase(i))
		for _, j := range numbers {
			p.Cut(i, j)
			page, e := c.Read(i, j)
			fmt.Fprintln(&told, page, e, c.Program(i, j, all(byte(j))), c.Program(7, 0, all(0)), c.Erase(7), c.Flip(i, j, 7), c.Flip(0, i, j))
			p.On()
			c.Fail(i > j, i, j)
			fmt.Fprintln(&told, c.Program(8, 0, all(1)), c.Erase(8), c.Erase(8), c.Count(), c.Live(), c.Off())
		}
	}
	return told.String()
}

// P1, P2: no call panics, whatever it is given, and two runs of the same calls give the same answers.
func TestWild(t *testing.T) {
	if one, two := wild(), wild(); one != two {
		t.Error("two runs differ")
	}
}
