package resync_test

import (
	"fmt"
	"math"
	"math/rand"
	"slices"
	"testing"

	"keelson/api"
	"keelson/mirror"
	"keelson/nand"
	"keelson/resync"
	"keelson/store"
	"keelson/view"
)

// wild is Steps over chips to which anything is done, by anyone.
type wild struct {
	rand  *rand.Rand
	tie   *view.Tie
	chips []*nand.Chip
	m     *mirror.Mirror
	list  []*resync.Resync
	told  []string
}

func newWild(seed int64) *wild {
	x := &wild{rand: rand.New(rand.NewSource(seed)), tie: view.NewTie()}
	powers := []*nand.Power{nand.NewPower(), nand.NewPower()}
	for i := range 4 {
		c, _ := nand.New(powers[i/2*x.rand.Intn(2)], 16+x.rand.Intn(3), 2+x.rand.Intn(14))
		x.chips = append(x.chips, c)
	}
	m, _ := mirror.Make(x.tie, x.chips[0], x.chips[1])
	x.opened(m)
	return x
}

func (x *wild) tell(what ...any) { x.told = append(x.told, fmt.Sprintln(what...)) }

func (x *wild) chip() *nand.Chip { return x.chips[x.rand.Intn(len(x.chips))] }

// opened lets a mirror be the one at hand, with several Resyncs.
func (x *wild) opened(m *mirror.Mirror) {
	x.m, x.list = m, []*resync.Resync{resync.New(m), resync.New(m)}
}

// big gives a number, at times one of the greatest.
func (x *wild) big() uint64 {
	if x.rand.Intn(8) > 0 {
		return uint64(x.rand.Intn(20))
	}
	return []uint64{1<<63 - 1, 1 << 63, math.MaxUint64 - 1, math.MaxUint64}[x.rand.Intn(4)]
}

func (x *wild) changes() []api.Change {
	var list []api.Change
	for _, key := range x.rand.Perm(24)[:x.rand.Intn(6)] {
		list = append(list, api.Change{Key: key, Gone: x.rand.Intn(4) == 0, Body: make([]byte, x.rand.Intn(225))})
	}
	return list
}

// bends does something to a chip, the power or the tie.
func (x *wild) bends() {
	c := x.chip()
	switch x.rand.Intn(10) {
	case 0:
		c.Put(false)
	case 1, 2, 3:
		c.Put(true)
	case 4:
		c.Cut(x.rand.Intn(20)-1, x.rand.Intn(300)-10)
	case 5:
		c.On()
	case 6:
		for range x.rand.Intn(40) {
			c.Flip(x.rand.Intn(16), x.rand.Intn(8), x.rand.Intn(2064))
		}
	case 7:
		c.Fail(x.rand.Intn(2) == 0, x.rand.Intn(9), x.rand.Intn(9))
	case 8:
		x.tell(x.tie.Set(api.View{Number: x.big(), Members: 1 + x.rand.Intn(3), Base: x.big()}))
	default:
		if x.rand.Intn(8) == 0 {
			c.Die()
		}
	}
}

// writes does something to a store, the mirror's own or another one over a chip.
func (x *wild) writes() {
	s, ok := x.m.Store(x.rand.Intn(2))
	if !ok || x.rand.Intn(3) == 0 {
		s, _ = store.Open(x.chip())
	}
	if s == nil {
		return
	}
	switch x.rand.Intn(4) {
	case 0:
		x.tell(s.Commit(s.Seen()+1+x.big(), x.changes()...))
	case 1:
		x.tell(s.Note(api.View{Number: x.big(), Members: x.rand.Intn(5), Base: x.big()}))
	case 2:
		x.tell(s.Stage(api.Node{Key: x.rand.Intn(24), Epoch: x.big()}))
	default:
		x.tell(s.Refresh())
	}
}

func (x *wild) step() {
	switch x.rand.Intn(14) {
	case 0:
		if m, e := mirror.Open(x.tie, x.chip(), x.chip()); e == api.OK {
			x.opened(m)
		}
	case 1:
		x.m.Replace(x.rand.Intn(3), x.chip())
	case 2, 3:
		x.tell(x.m.Commit(x.changes()...))
	case 4:
		x.writes()
	case 5, 6:
		x.bends()
	case 7:
		x.tell(x.m.Recall(x.rand.Intn(2)), x.m.Renew(x.rand.Intn(2)), x.m.Join(x.rand.Intn(2)))
	default:
		r := x.list[x.rand.Intn(len(x.list))]
		for range 1 + x.rand.Intn(8) {
			done, e := r.Step()
			x.tell(done, e, r.Full(), r.Most())
			if done && e != api.OK {
				x.tell("true beside an error")
			}
		}
	}
	x.tell(x.m.Epoch(), x.m.Live(), x.m.View(), x.m.Seen(0), x.m.Seen(1))
}

// P1, P2: whatever is done, by whomever, each call ends, none panics, and two runs give the same answers and do the same acts; also if both chips are one, or have power of their own.
func TestWild(t *testing.T) {
	t.Parallel()
	for seed := range int64(80) {
		one, two := newWild(seed), newWild(seed)
		for range 120 {
			one.step()
			two.step()
		}
		if !slices.Equal(one.told, two.told) || slices.Contains(one.told, "true beside an error\n") {
			t.Errorf("seed %d: two runs differ, or it is true beside an error", seed)
		}
		for i := range one.chips {
			if one.chips[i].Count() != two.chips[i].Count() {
				t.Errorf("seed %d: the chip %d: %d acts, and %d", seed, i, one.chips[i].Count(), two.chips[i].Count())
			}
		}
	}
}
