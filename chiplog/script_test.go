package chiplog_test

import (
	"fmt"
	"math/rand"
	"slices"
	"testing"

	"keelson/api"
	"keelson/chiplog"
	"keelson/disk"
	"keelson/frame"
	"keelson/nand"
)

// plainBlock is the chapter's block: what its pages hold, bit by bit.
type plainBlock struct {
	pages   [api.BlockPages]api.Page
	turned  [api.BlockPages]bool // a bit, since it was erased
	wear    uint64
	order   int // of a segment, from 1 on; 0: it is free
	next    int
	shut    bool
	cleared bool // since the log was opened
}

// clear erases a block, and notes its wear.
func (b *plainBlock) clear(wear uint64) {
	*b = plainBlock{wear: wear, next: api.BlockPages, cleared: true}
	for page := range b.pages {
		b.pages[page] = blank()
	}
	b.pages[0] = wearOf(wear)
}

// clean tells whether all pages of a block but the first one are blank.
func (b *plainBlock) clean() bool {
	return b.cleared && !slices.ContainsFunc(b.pages[1:], func(p api.Page) bool { return p != blank() })
}

// write writes a page, in which no bit becomes 1, and tells whether it stands there bit by bit.
func (b *plainBlock) write(page int, p api.Page) bool {
	for i := range p {
		b.pages[page][i] &= p[i]
	}
	return b.pages[page] == p
}

// records gives how many of a block's pages are records that can be read, and how many bits are mended.
func (b *plainBlock) read() (pages []int, bits int) {
	for page, p := range b.pages {
		_, _, n, e := frame.Read(p)
		bits += n
		if e == api.OK && page > 1 {
			pages = append(pages, page)
		}
	}
	return pages, bits
}

// plain is the chapter's log, and the one that should be like it, in the course of a script without cuts.
type plain struct {
	t      *testing.T
	r      *rand.Rand
	c      *nand.Chip
	l      *chiplog.Log
	blocks []*plainBlock
	order  int
	log    []string
}

func newPlain(t *testing.T, seed int64) *plain {
	t.Helper()
	m := &plain{t: t, r: rand.New(rand.NewSource(seed))}
	c, d := formatted(t, 16+m.r.Intn(6))
	m.c = c
	for range d.Len() {
		b := &plainBlock{}
		b.clear(0)
		m.blocks = append(m.blocks, b)
	}
	m.make(d)
	return m
}

// note notes what was done.
func (m *plain) note(what ...any) { m.log = append(m.log, fmt.Sprintln(what...)) }

// fatal tells what went wrong, and all that was ahead of it.
func (m *plain) fatal(what ...any) {
	m.t.Helper()
	m.t.Fatalf("%sbehind %q", fmt.Sprintln(what...), m.log)
}

func (m *plain) make(d *disk.Disk) {
	m.note("New")
	m.l = over(m.t, "New", d, chiplog.New)
	for _, b := range m.blocks {
		b.clear(b.wear + 1)
	}
}

func (m *plain) open() {
	m.note("Open")
	m.l = opened(m.t, "Open", m.c)
	for _, b := range m.blocks {
		b.shut, b.cleared = false, false
	}
}

// segments gives the numbers of the segments' blocks, in the log's order.
func (m *plain) segments() []int {
	var list []int
	for at, b := range m.blocks {
		if b.order > 0 {
			list = append(list, at)
		}
	}
	slices.SortFunc(list, func(one, two int) int { return m.blocks[one].order - m.blocks[two].order })
	return list
}

// last gives the last segment, or nil.
func (m *plain) last() (int, *plainBlock) {
	list := m.segments()
	if len(list) == 0 {
		return 0, nil
	}
	at := list[len(list)-1]
	return at, m.blocks[at]
}

// room tells how many pages a block has that come next.
func (m *plain) room() int {
	if _, b := m.last(); b != nil && !b.shut {
		return api.BlockPages - b.next
	}
	return 0
}

// begin begins a block, if one is free.
func (m *plain) begin() bool {
	var list []int
	for at, b := range m.blocks {
		if b.order == 0 {
			list = append(list, at)
		}
	}
	if len(list) == 0 {
		return false
	}
	least := slices.MinFunc(list, func(one, two int) int { return int(m.blocks[one].wear) - int(m.blocks[two].wear) })
	b := m.blocks[least]
	if !b.clean() {
		b.clear(b.wear)
	}
	m.order++
	b.order, b.next, b.cleared = m.order, 2, false
	return true
}

// append appends a page, and gives where it stands, or false if there is no space.
func (m *plain) append(p api.Page) (api.Place, bool) {
	for {
		for at, b := m.last(); m.room() > 0; {
			page := b.next
			b.next++
			if b.write(page, p) {
				return api.Place{Block: at, Page: page}, true
			}
		}
		if !m.begin() {
			return api.Place{}, false
		}
	}
}

// step does one thing.
func (m *plain) step() {
	switch n := m.r.Intn(40); {
	case n == 0 && m.r.Intn(4) == 0:
		m.make(m.l.Disk)
	case n < 3:
		m.open()
	case n < 5:
		m.note("Shut")
		m.l.Shut()
		if _, b := m.last(); b != nil {
			b.shut = true
		}
	case n < 8:
		m.drop(m.r.Intn(m.l.Len()+2) - 1)
	case n < 14:
		m.flip()
	default:
		m.add()
	}
	m.check()
}

func (m *plain) add() {
	k := m.r.Intn(1000)
	place, ok := m.append(record(k))
	got, e := m.l.Append(kind(k), body(k))
	m.note("Append", k, got, e)
	if ok && (got != place || e != api.OK) || !ok && (got != api.Place{} || e != api.ErrNoSpace) {
		m.fatal("it should stand at", place, ok)
	}
	if !ok {
		m.drop(m.segments()[0])
		return
	}
	// The head that the log has chosen is none of the chapter's business.
	list := m.l.Segments()
	if b := m.blocks[place.Block]; b.pages[1] == blank() {
		b.write(1, headOf(list[len(list)-1].Seq))
	}
}

func (m *plain) drop(block int) {
	e := m.l.Drop(block)
	m.note("Drop", block, e)
	if block < 0 || block >= len(m.blocks) || m.blocks[block].order == 0 {
		if e != api.ErrArg {
			m.fatal("it isn't a segment")
		}
		return
	}
	if e != api.OK {
		m.fatal("it is a segment")
	}
	m.blocks[block].clear(m.blocks[block].wear + 1)
}

// flip turns a bit of a page, of which none has turned since it was erased.
func (m *plain) flip() {
	block, page, bit := m.r.Intn(len(m.blocks)), m.r.Intn(api.BlockPages), m.r.Intn(2064)
	if at, b := m.last(); b != nil && m.r.Intn(2) == 0 {
		block = at
	}
	b := m.blocks[block]
	if b.turned[page] {
		return
	}
	m.note("Flip", block, page, bit)
	flip(m.t, m.c, block, page, bit)
	b.pages[page], b.turned[page] = turn(b.pages[page], bit), true
}

// check tells of a log that isn't like the chapter's one.
func (m *plain) check() {
	var segments []api.Segment
	free := len(m.blocks)
	for _, at := range m.segments() {
		b := m.blocks[at]
		s := api.Segment{Block: at, Wear: b.wear}
		pages, bits := b.read()
		for _, page := range pages {
			s.Records = append(s.Records, api.Place{Block: at, Page: page})
		}
		segments = append(segments, s)
		free--
		if n, e := m.l.Mend(at); n != bits || e != api.OK {
			m.fatal("Mend of", at, "is", n, e, "not", bits)
		}
	}
	list := m.l.Segments()
	for i := range list {
		if i > 0 && list[i-1].Seq >= list[i].Seq {
			m.fatal("Seq", list[i-1].Seq, "and then", list[i].Seq)
		}
		list[i].Seq = 0
	}
	if one, two := fmt.Sprint(list), fmt.Sprint(segments); one != two {
		m.fatal("Segments:", one, "not", two)
	}
	if m.l.Free() != free || m.l.Room() != m.room() {
		m.fatal("Free", m.l.Free(), "not", free, "or Room", m.l.Room(), "not", m.room())
	}
	for at, b := range m.blocks {
		for page, p := range b.pages {
			if got, e := m.l.Read(at, page); got != p || e != api.OK {
				m.fatal("the page", at, page, "isn't as it should be:", e)
			}
		}
	}
}

// P8.1 to P8.4, in any order, with turned bits: all that a log tells, and each page of its disk, is what the chapter says.
func TestScripts(t *testing.T) {
	t.Parallel()
	for seed := range int64(40) {
		m := newPlain(t, seed)
		for range 250 {
			m.step()
		}
		m.open()
		m.check()
	}
}

// script is a log in the course of a script with cuts and failures.
type script struct {
	*stage
	r      *rand.Rand
	fails  int                // how many acts may still be told to fail
	worn   bool               // whether ErrWorn may be answered
	turned map[api.Place]bool // a bit, since the block was erased
	last   int                // the last record that was appended
	gone   map[int]int        // of a block: the last record that was appended ahead of its last Drop, or of its being begun
	log    []string
}

func newScript(t *testing.T, seed int64, fails int) *script {
	t.Helper()
	x := &stage{t: t, what: fmt.Sprint("seed ", seed), sure: map[api.Place]int{}}
	s := &script{stage: x, r: rand.New(rand.NewSource(seed)), fails: fails, worn: fails > 2, turned: map[api.Place]bool{}, gone: map[int]int{}}
	c, d := formatted(t, 16+s.r.Intn(4))
	x.c, x.l = c, over(t, "New", d, chiplog.New)
	return s
}

func (s *script) note(what ...any) { s.log = append(s.log, fmt.Sprintln(what...)) }

func (s *script) step() {
	switch n := s.r.Intn(30); {
	case n < 2 && s.fails > 0:
		s.fails--
		programs, which := s.r.Intn(2) == 0, s.r.Intn(6)
		s.c.Fail(programs, which)
		s.note("Fail", programs, which)
	case n < 4:
		s.open()
	case n < 5:
		s.note("Shut")
		s.l.Shut()
	case n < 9:
		s.flip()
	case n < 11:
		s.drop()
	default:
		s.append()
	}
	s.check()
}

func (s *script) append() {
	s.cut()
	s.last++
	before := blocks(s.l)
	p, e := s.l.Append(kind(s.last), body(s.last))
	s.note("Append", s.last, p, e)
	if e == api.OK {
		s.sure[p] = s.last
	}
	s.over(e)
	for _, block := range blocks(s.l) {
		if !slices.Contains(before, block) {
			// It was blank when it was begun, whatever bits of it had turned ahead.
			s.forget(block, 1)
			s.gone[block] = s.last - 1
		}
	}
	if e == api.ErrNoSpace || s.l.Free() < 3 {
		s.drop()
	}
}

func (s *script) drop() {
	list := blocks(s.l)
	if len(list) == 0 {
		return
	}
	block := list[s.r.Intn(min(len(list), 3))]
	for p := range s.sure {
		if p.Block == block {
			delete(s.sure, p)
		}
	}
	s.cut()
	e := s.l.Drop(block)
	s.note("Drop", block, e)
	if e == api.OK {
		s.forget(block, 0)
		s.gone[block] = s.last
	}
	s.over(e)
}

// forget forgets which bits have turned of a block's pages, from one of them on.
func (s *script) forget(block, page int) {
	for ; page < api.BlockPages; page++ {
		delete(s.turned, api.Place{Block: block, Page: page})
	}
}

// flip turns a bit of a page, of which none has turned since it was erased.
func (s *script) flip() {
	p := api.Place{Block: s.r.Intn(s.l.Len()), Page: s.r.Intn(api.BlockPages)}
	if s.turned[p] {
		return
	}
	s.turned[p] = true
	bit := []int{s.r.Intn(2064), 2063 - s.r.Intn(4)}[s.r.Intn(2)]
	s.note("Flip", p, bit)
	flip(s.t, s.c, p.Block, p.Page, bit)
}

// cut lets the power end in one of the next acts, or not.
func (s *script) cut() {
	if s.r.Intn(3) == 0 {
		after, keep := s.r.Intn(5), keeps[s.r.Intn(len(keeps))]
		s.c.Cut(after, keep)
		s.note("Cut", after, keep)
	}
}

// over lets there be power again, and opens the log or goes on with it as it is.
func (s *script) over(e api.Errno) {
	s.c.On()
	switch {
	case e == api.OK || e == api.ErrNoSpace || e == api.ErrWorn && s.worn:
	case e != api.ErrDown:
		s.fail("it answers", e)
	case s.r.Intn(2) == 0:
		s.open()
	}
}

func (s *script) open() {
	s.note("Open")
	s.l = opened(s.t, s.what, s.c)
}

// fail tells what went wrong, and all that was ahead of it.
func (s *script) fail(what ...any) {
	s.t.Helper()
	s.fatal(fmt.Sprintln(what...), fmt.Sprintf("behind %q", s.log))
}

// check tells of a log that lacks a record, or has one that it can't have, or in another order.
func (s *script) check() {
	s.t.Helper()
	for _, l := range []*chiplog.Log{s.l, opened(s.t, s.what, s.c)} {
		before, found := 0, map[api.Place]bool{}
		for _, p := range records(l) {
			k := s.number(l, p)
			if k < before {
				s.fail("the record", k, "behind", before)
			}
			if k <= s.gone[p.Block] {
				s.fail("the record", k, "stands at", p, "where all of that time are gone")
			}
			before, found[p] = k, true
			if is, ok := s.sure[p]; ok && is != k {
				s.fail("at", p, "stands", k, "not", is)
			}
		}
		for p, k := range s.sure {
			if !found[p] {
				s.fail("the record", k, "doesn't stand at", p)
			}
		}
	}
}

// P8.5, in any order, with cuts, failures, and turned bits; a log is opened behind a cut, or used on.
func TestScriptsWithCuts(t *testing.T) {
	t.Parallel()
	for seed := range int64(90) {
		s := newScript(t, seed, []int{0, 2, 12}[seed%3])
		for range 120 {
			s.step()
		}
	}
}

// P2: two runs of the same calls give the same answers, and do the same acts.
func TestTwoRuns(t *testing.T) {
	t.Parallel()
	for seed := range int64(10) {
		one, two := newScript(t, seed, 2), newScript(t, seed, 2)
		for range 120 {
			one.step()
			two.step()
		}
		if !slices.Equal(one.log, two.log) || one.c.Count() != two.c.Count() || fmt.Sprint(one.l.Segments()) != fmt.Sprint(two.l.Segments()) {
			t.Errorf("seed %d: two runs differ", seed)
		}
		for block := range one.c.Blocks() {
			for page := range api.BlockPages {
				p, _ := one.c.Read(block, page)
				q, _ := two.c.Read(block, page)
				if p != q {
					t.Errorf("seed %d: the chip's page %d, %d differs", seed, block, page)
				}
			}
		}
	}
}
