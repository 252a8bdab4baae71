package disk_test

import (
	"fmt"
	"math/rand"
	"slices"
	"testing"

	"keelson/api"
	"keelson/disk"
	"keelson/nand"
)

// plain is the chapter's block: what was written into its pages, and which one comes next.
type plain struct {
	pages  [api.BlockPages]api.Page
	any    [api.BlockPages]bool // pages that may be anything
	turned [api.BlockPages]map[int]bool
	next   int
	broken bool // an Erase may or may not have been done
}

func newPlain() *plain {
	b := &plain{}
	for page := range b.pages {
		b.pages[page] = blank()
		b.turned[page] = map[int]bool{}
	}
	return b
}

// like tells whether a page is another one but for bits of those that turned.
func like(got, p api.Page, turned map[int]bool) bool {
	for i := range got {
		for bit := 0; bit < 8 && got[i] != p[i]; bit++ {
			if (got[i]^p[i])>>bit&1 == 1 && !turned[8*i+bit] {
				return false
			}
		}
	}
	return true
}

// may tells whether a page may be read so.
func (b *plain) may(page int, got api.Page) bool {
	return b.any[page] || like(got, b.pages[page], b.turned[page]) || b.broken && like(got, blank(), b.turned[page])
}

// script is a disk in the course of a random script, and what it should hold.
type script struct {
	t      *testing.T
	r      *rand.Rand
	c      *nand.Chip
	d      *disk.Disk
	blocks []*plain
	fails  int      // how many acts may still be told to fail
	worn   bool     // whether ErrWorn may be answered
	table  [16]bool // the table's pages of which a bit turned since the last Refresh
	log    []string
}

// newScript gives a script that only a seed tells.
func newScript(t *testing.T, seed int64, fails int) *script {
	s := &script{t: t, r: rand.New(rand.NewSource(seed)), fails: fails, worn: fails > 2}
	blocks := 16 + s.r.Intn(8)
	var bad []int
	for range s.r.Intn(3) {
		bad = append(bad, 2+s.r.Intn(blocks-2))
	}
	s.c, _ = nand.New(nand.NewPower(), blocks, bad...)
	d, e := disk.Format(s.c)
	if e != api.OK {
		t.Fatalf("Format: %v", e)
	}
	s.d = d
	for range d.Len() {
		s.blocks = append(s.blocks, newPlain())
	}
	return s
}

// note notes what was done.
func (s *script) note(what ...any) { s.log = append(s.log, fmt.Sprintln(what...)) }

// fatal tells what went wrong, and all that was ahead of it.
func (s *script) fatal(what ...any) {
	s.t.Helper()
	s.t.Fatalf("%sbehind %q", fmt.Sprintln(what...), s.log)
}

// step does one thing.
func (s *script) step() {
	block := s.r.Intn(4)
	switch n := s.r.Intn(24); {
	case n < 2:
		s.flip(block)
	case n < 3:
		s.flipTable()
	case n < 5 && s.fails > 0:
		s.fails--
		programs, which := s.r.Intn(2) == 0, s.r.Intn(6)
		s.c.Fail(programs, which)
		s.note("Fail", programs, which)
	case n < 7:
		s.refresh()
	case n < 9:
		s.open()
	case n < 12:
		s.erase(block)
	case n < 14:
		s.read(block, s.r.Intn(api.BlockPages))
	default:
		page := s.blocks[block].next
		if s.r.Intn(8) == 0 {
			page = s.r.Intn(api.BlockPages)
		}
		if page < api.BlockPages {
			s.program(block, page)
		}
	}
}

// cut lets the power end in one of the next acts, or not.
func (s *script) cut() {
	if s.r.Intn(4) == 0 {
		keeps := []int{0, 1, 3, 7, 8, 129, 255, 256, 257, 258, s.r.Intn(259)}
		after, keep := s.r.Intn(14), keeps[s.r.Intn(len(keeps))]
		s.c.Cut(after, keep)
		s.note("Cut", after, keep)
	}
}

// over lets there be power again, and opens the disk or goes on with it as it is.
func (s *script) over(e api.Errno) {
	s.c.On()
	if e == api.ErrWorn && !s.worn {
		s.fatal("worn")
	}
	if e == api.ErrDown && s.r.Intn(2) == 0 {
		s.open()
	}
}

func (s *script) program(block, page int) {
	b := s.blocks[block]
	p := record(s.r.Intn(1000))
	if s.r.Intn(6) == 0 {
		// It is no record, nor nearly one: so it moves as it stands.
		s.r.Read(p[:])
	}
	s.cut()
	e := s.d.Program(block, page, p)
	s.note("Program", block, page, e)
	if b.broken && page == 0 && e != api.ErrOrder {
		// The first page comes next, so the Erase that broke off was done wholly.
		turned := b.turned
		*b = *newPlain()
		b.turned = turned
	}
	switch {
	case b.broken || page != b.next:
		if e != api.ErrOrder {
			s.fatal("not the next page:", e)
		}
	case e == api.OK:
		b.pages[page], b.next = p, page+1
	case e == api.ErrDown || e == api.ErrWorn:
		b.any[page], b.next = true, page+1
	default:
		s.fatal("the next page:", e)
	}
	s.over(e)
	s.all()
}

func (s *script) erase(block int) {
	b := s.blocks[block]
	s.cut()
	e := s.d.Erase(block)
	s.note("Erase", block, e)
	switch e {
	case api.OK:
		*b = *newPlain()
	case api.ErrDown, api.ErrWorn:
		b.broken, b.next = true, 0
	default:
		s.fatal("Erase:", e)
	}
	s.over(e)
	s.all()
}

func (s *script) refresh() {
	s.cut()
	e := s.d.Refresh()
	s.note("Refresh", e)
	if e == api.OK {
		s.table = [16]bool{}
	} else if e != api.ErrDown && e != api.ErrWorn {
		s.fatal("Refresh:", e)
	}
	s.over(e)
	s.all()
}

// flip turns a bit of a block's page, at most one of each page.
func (s *script) flip(block int) {
	page, bit := s.r.Intn(api.BlockPages), s.r.Intn(2064)
	turned := s.blocks[block].turned[page]
	if len(turned) > 0 {
		return
	}
	turned[bit] = true
	s.c.Flip(at(s.t, s.c, block), page, bit)
	s.note("Flip", block, page, bit)
}

// flipTable turns a bit of a table's page, at most one between two Refreshes.
func (s *script) flipTable() {
	page := s.r.Intn(16)
	if !s.table[page] {
		s.table[page] = true
		bit := s.r.Intn(2064)
		s.c.Flip(page/8, page%8, bit)
		s.note("FlipTable", page, bit)
	}
}

func (s *script) open() {
	d, e := disk.Open(s.c)
	s.note("Open", e)
	if d == nil || e != api.OK {
		s.fatal("Open:", e)
	}
	s.d = d
	s.all()
}

func (s *script) read(block, page int) {
	got, e := s.d.Read(block, page)
	if e != api.OK || !s.blocks[block].may(page, got) {
		s.fatal("Read", block, page, e)
	}
}

// all reads all blocks that are used, and one that isn't.
func (s *script) all() {
	before := s.c.Count()
	for block := range 5 {
		for page := range api.BlockPages {
			s.read(block, page)
		}
	}
	if s.c.Count() != before {
		s.fatal("Read did an act")
	}
}

// P7.1 to P7.4, in any order, with cuts, failures, and turned bits.
func TestScripts(t *testing.T) {
	for seed := range int64(400) {
		fails := 2
		if seed%2 == 1 {
			fails = 12
		}
		t.Run(fmt.Sprint(seed), func(t *testing.T) {
			s := newScript(t, seed, fails)
			for range 120 {
				s.step()
			}
			s.open()
		})
	}
}

// P2: two runs of the same calls give the same answers, and do the same acts.
func TestTwoRuns(t *testing.T) {
	for seed := range int64(20) {
		one, two := newScript(t, seed, 2), newScript(t, seed, 2)
		for range 120 {
			one.step()
			two.step()
		}
		if !slices.Equal(one.log, two.log) || one.c.Count() != two.c.Count() {
			t.Errorf("seed %d: two runs differ", seed)
		}
		for block := range one.c.Blocks() {
			for page := range api.BlockPages {
				p, _ := one.c.Read(block, page)
				q, _ := two.c.Read(block, page)
				if p != q {
					t.Errorf("seed %d: the chip's page %d, %d differs", seed, block, page)
				}
			}
		}
	}
}
