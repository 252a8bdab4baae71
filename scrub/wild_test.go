package scrub_test

import (
	"fmt"
	"math"
	"math/rand"
	"slices"
	"testing"

	"keelson/api"
	"keelson/mirror"
	"keelson/nand"
	"keelson/resync"
	"keelson/scrub"
	"keelson/view"
)

// wild is Steps over chips to which anything is done, by anyone.
type wild struct {
	rand  *rand.Rand
	tie   *view.Tie
	chips []*nand.Chip
	m     *mirror.Mirror
	s     [2]*scrub.Scrub
	back  *resync.Resync
	told  []string
}

func newWild(seed int64) *wild {
	x := &wild{rand: rand.New(rand.NewSource(seed)), tie: view.NewTie()}
	powers := []*nand.Power{nand.NewPower(), nand.NewPower()}
	for i := range 3 {
		c, _ := nand.New(powers[i/2*x.rand.Intn(2)], 16, 2+x.rand.Intn(14))
		x.chips = append(x.chips, c)
	}
	m, _ := mirror.Make(x.tie, x.chips[0], x.chips[1])
	x.opened(m)
	return x
}

func (x *wild) tell(what ...any) { x.told = append(x.told, fmt.Sprintln(what...)) }

func (x *wild) chip() *nand.Chip { return x.chips[x.rand.Intn(len(x.chips))] }

// opened lets a mirror be the one at hand, with two Scrubs and a Resync.
func (x *wild) opened(m *mirror.Mirror) {
	x.m, x.back, x.s = m, resync.New(m), [2]*scrub.Scrub{scrub.New(m), scrub.New(m)}
}

func (x *wild) changes() []api.Change {
	var list []api.Change
	for _, key := range x.rand.Perm(256)[:x.rand.Intn(6)] {
		list = append(list, api.Change{Key: key, Gone: x.rand.Intn(4) == 0, Body: make([]byte, x.rand.Intn(225))})
	}
	return list
}

// bends does something to a chip, the power or the tie.
func (x *wild) bends() {
	c := x.chip()
	switch x.rand.Intn(10) {
	case 0:
		c.Put(false)
	case 1, 2, 3:
		c.Put(true)
	case 4:
		c.Cut(x.rand.Intn(20)-1, x.rand.Intn(300)-10)
	case 5:
		c.On()
	case 6, 7:
		for range x.rand.Intn(60) {
			c.Flip(x.rand.Intn(16), x.rand.Intn(8), x.rand.Intn(2064))
		}
	case 8:
		c.Fail(x.rand.Intn(2) == 0, x.rand.Intn(9), x.rand.Intn(9))
	default:
		x.tell(x.tie.Set(api.View{Number: uint64(x.rand.Intn(30)), Members: 1 + x.rand.Intn(3), Base: uint64(x.rand.Intn(20))}))
	}
}

// writes does something to the mirror's own store of a chip.
func (x *wild) writes() {
	s, ok := x.m.Store(x.rand.Intn(2))
	switch n := x.rand.Intn(4); {
	case !ok:
	case n == 0:
		x.tell(s.Commit(s.Seen()+1, x.changes()...))
	case n == 1:
		x.tell(s.Note(api.View{Number: []uint64{5, 50, math.MaxUint64}[x.rand.Intn(3)]}))
	case n == 2:
		x.tell(s.Stage(api.Node{Key: x.rand.Intn(24), Epoch: s.Epoch() + uint64(x.rand.Intn(3))}))
	default:
		x.tell(s.Drop(x.rand.Intn(10)))
	}
}

func (x *wild) step() {
	switch x.rand.Intn(14) {
	case 0:
		if m, e := mirror.Open(x.tie, x.chip(), x.chip()); e == api.OK {
			x.opened(m)
		}
	case 1:
		x.m.Replace(x.rand.Intn(3), x.chip())
	case 2, 3:
		x.tell(x.m.Commit(x.changes()...))
	case 4:
		if x.rand.Intn(3) == 0 {
			x.writes()
		}
	case 5, 6, 7:
		x.bends()
	case 8:
		for range x.rand.Intn(30) {
			x.tell(x.back.Step())
		}
	default:
		s := x.s[x.rand.Intn(2)]
		for range x.rand.Intn(300) {
			done, e := s.Step()
			x.tell(done, e, s.Mended())
		}
	}
	x.tell(x.m.Epoch(), x.m.Live(), x.m.View(), x.m.Seen(0), x.m.Seen(1))
}

// P1, P2: whatever is done, by whomever, each call ends, none panics, and two runs give the same answers and do the same acts; also if both chips are one, or have power of their own.
func TestWild(t *testing.T) {
	t.Parallel()
	for seed := range int64(60) {
		one, two := newWild(seed), newWild(seed)
		for range 120 {
			one.step()
			two.step()
		}
		if !slices.Equal(one.told, two.told) {
			t.Errorf("seed %d: two runs differ", seed)
		}
		for i := range one.chips {
			if one.chips[i].Count() != two.chips[i].Count() {
				t.Errorf("seed %d: the chip %d: %d acts, and %d", seed, i, one.chips[i].Count(), two.chips[i].Count())
			}
		}
	}
}
