package bbt

import (
	"fmt"
	"math/rand"
	"slices"
	"testing"

	"keelson/api"
	"keelson/nand"
)

// script is a chip in the course of a random script, and what may be kept on it.
type script struct {
	t      *testing.T
	r      *rand.Rand
	c      *nand.Chip
	x      *Table
	bad    []int
	fails  int      // how many acts may still be told to fail
	turned [16]bool // the pages of which a bit turned since the last Refresh
	kept   []plain  // the elder table first
	log    []string
}

// newScript gives a script that only a seed tells.
func newScript(t *testing.T, seed int64) *script {
	s := &script{t: t, r: rand.New(rand.NewSource(seed)), fails: 2}
	blocks := 16 + s.r.Intn(25)
	for range s.r.Intn(4) {
		s.bad = append(s.bad, 2+s.r.Intn(blocks-2))
	}
	slices.Sort(s.bad)
	s.bad = slices.Compact(s.bad)
	s.c, _ = nand.New(nand.NewPower(), blocks, s.bad...)
	x, e := Format(s.c)
	s.x, s.kept = x, []plain{plainFresh(blocks, s.bad...)}
	s.note("Format", e)
	return s
}

// note notes an answer.
func (s *script) note(what string, e api.Errno) {
	s.log = append(s.log, fmt.Sprintf("%s: %d", what, e))
}

// fatal tells what went wrong, and all that was ahead of it.
func (s *script) fatal(what string) {
	s.t.Helper()
	s.t.Fatalf("%s\nbehind %q", what, s.log)
}

// step does one thing.
func (s *script) step() {
	switch n := s.r.Intn(12); {
	case n < 2:
		s.flip()
	case n < 3 && s.fails > 0:
		s.fails--
		s.c.Fail(s.r.Intn(2) == 0, s.r.Intn(4))
		s.log = append(s.log, "Fail")
	case n < 5:
		s.keeps("Refresh", s.x.Refresh, s.kept[0])
	case n < 6:
		m := plainFresh(s.c.Blocks(), s.bad...)
		s.keeps("Format", s.format, m)
	case n < 8:
		s.open()
	case n < 10:
		if spares := s.kept[0].spares(); len(spares) > 0 {
			block := spares[s.r.Intn(len(spares))]
			s.keeps(fmt.Sprintf("Lose %d", block), func() api.Errno { return s.x.Lose(block) }, s.kept[0].lose(block))
		}
	default:
		if spares := s.kept[0].spares(); len(spares) > 0 {
			logical, block := s.r.Intn(s.x.Len()), spares[s.r.Intn(len(spares))]
			s.keeps(fmt.Sprintf("Swap %d %d", logical, block), func() api.Errno { return s.x.Swap(logical, block) }, s.kept[0].swap(logical, block))
		}
	}
}

// format lets the script go on with the table that Format gives.
func (s *script) format() api.Errno {
	x, e := Format(s.c)
	if e == api.OK {
		s.x = x
	}
	return e
}

// keeps does a call that keeps a table, with or without a cut in it.
func (s *script) keeps(name string, do func() api.Errno, then plain) {
	if s.r.Intn(3) == 0 {
		keeps := []int{0, 1, 7, 8, 129, 255, 256, 257, 258, s.r.Intn(259)}
		s.c.Cut(s.r.Intn(5), keeps[s.r.Intn(len(keeps))])
	}
	e := do()
	s.note(name, e)
	s.c.On()
	switch {
	case e == api.OK:
		s.kept = []plain{then}
		if name == "Refresh" {
			s.turned = [16]bool{}
		}
	case e == api.ErrDown:
		// Without a table that was opened anew the one at hand tells the elder one.
		s.kept = append(s.kept, then)
		if s.r.Intn(2) == 0 {
			s.open()
		}
	default:
		s.fatal(fmt.Sprintf("%s: %v", name, e))
	}
	if got := tell(s.t, s.x); got != s.kept[0].tell() {
		s.fatal(fmt.Sprintf("%s: the table tells %s, not %s", name, got, s.kept[0].tell()))
	}
}

// flip turns a bit of a page of which none turned yet.
func (s *script) flip() {
	page := s.r.Intn(16)
	if s.turned[page] {
		return
	}
	s.turned[page] = true
	bits := []int{s.r.Intn(2064), 2063 - s.r.Intn(8)}
	bit := bits[s.r.Intn(2)]
	s.c.Flip(page/8, page%8, bit)
	s.log = append(s.log, fmt.Sprintf("Flip %d %d", page, bit))
}

// open opens what is kept, which is one of those that may be.
func (s *script) open() {
	before := s.c.Count()
	x, e := Open(s.c)
	s.note("Open", e)
	if e != api.OK {
		s.fatal(fmt.Sprintf("Open: %v", e))
	}
	i := slices.IndexFunc(s.kept, func(m plain) bool { return m.tell() == tell(s.t, x) })
	if i < 0 || s.c.Count() != before {
		s.fatal(fmt.Sprintf("Open gives %s, none of %v", tell(s.t, x), s.kept))
	}
	s.x, s.kept = x, s.kept[i:i+1]
}

// P6.2 to P6.5, in any order, with cuts, two failures, and turned bits.
func TestScripts(t *testing.T) {
	for seed := range int64(300) {
		s := newScript(t, seed)
		for range 120 {
			s.step()
		}
		s.open()
	}
}

// P2: two runs of the same calls give the same answers, and do the same acts.
func TestTwoRuns(t *testing.T) {
	for seed := range int64(20) {
		one, two := newScript(t, seed), newScript(t, seed)
		for range 120 {
			one.step()
			two.step()
		}
		if !slices.Equal(one.log, two.log) || one.c.Count() != two.c.Count() || !slices.Equal(pages(one.c, 0), pages(two.c, 0)) {
			t.Errorf("seed %d: two runs differ", seed)
		}
	}
}
