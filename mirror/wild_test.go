package mirror_test

import (
	"fmt"
	"math"
	"math/rand"
	"slices"
	"testing"

	"keelson/api"
	"keelson/mirror"
	"keelson/nand"
	"keelson/store"
	"keelson/view"
)

// wild is calls of all kinds, in any order, on chips to which anything is done, by anyone.
type wild struct {
	r     *rand.Rand
	tie   *view.Tie
	power [2]*nand.Power
	chips []*nand.Chip
	m     *mirror.Mirror
	told  []string
}

func newWild(seed int64) *wild {
	x := &wild{r: rand.New(rand.NewSource(seed)), tie: view.NewTie()}
	x.power = [2]*nand.Power{nand.NewPower(), nand.NewPower()}
	for range 4 {
		// Of one power, mostly.
		c, _ := nand.New(x.power[x.r.Intn(10)/9], 16+x.r.Intn(3), 2+x.r.Intn(14))
		x.chips = append(x.chips, c)
	}
	x.m, _ = mirror.Make(x.tie, x.chips[0], x.chips[1])
	return x
}

func (x *wild) tell(what ...any) { x.told = append(x.told, fmt.Sprintln(what...)) }

func (x *wild) chip() *nand.Chip { return x.chips[x.r.Intn(len(x.chips))] }

func (x *wild) number() int {
	if x.r.Intn(8) == 0 {
		return odd()[x.r.Intn(len(odd()))]
	}
	return x.r.Intn(2)
}

func (x *wild) big() uint64 {
	return []uint64{uint64(x.r.Intn(9)), uint64(x.r.Intn(60)), 1<<63 - 1, 1 << 63, math.MaxUint64}[min(x.r.Intn(40), 4-x.r.Intn(4))]
}

func (x *wild) view() api.View {
	return api.View{Number: x.big(), Members: x.r.Intn(5) - 1, Base: x.big()}
}

func (x *wild) changes() []api.Change {
	var list []api.Change
	for range x.r.Intn(5) {
		key := x.r.Intn(30)
		if x.r.Intn(20) == 0 {
			key = oddKeys()[x.r.Intn(len(oddKeys()))]
		}
		list = append(list, api.Change{Key: key, Gone: x.r.Intn(4) == 0, Body: make([]byte, x.r.Intn(20)*x.r.Intn(13))})
	}
	return list
}

// bends does something to the chips, the power or the tie.
func (x *wild) bends() {
	c := x.chip()
	switch x.r.Intn(12) {
	case 0:
		c.Put(false)
	case 1, 2, 3:
		c.Put(true)
	case 4:
		c.Cut(x.r.Intn(20)-1, x.r.Intn(300)-10)
	case 5, 6:
		c.On()
	case 7:
		for range x.r.Intn(30) {
			c.Flip(x.r.Intn(16), x.r.Intn(8), x.r.Intn(2064))
		}
	case 8:
		c.Fail(x.r.Intn(2) == 0, x.r.Intn(9), x.r.Intn(9))
	case 9:
		x.tell(x.tie.Set(x.view()))
	case 10:
		if x.r.Intn(12) == 0 {
			c.Die()
		}
	default:
		x.writes(c)
	}
}

// writes does something to a chip's store, of which no mirror knows.
func (x *wild) writes(c *nand.Chip) {
	s, e := store.Open(c)
	if own, ok := x.m.Store(x.number()); ok && x.r.Intn(2) == 0 {
		s, e = own, api.OK
	}
	if e != api.OK {
		return
	}
	switch x.r.Intn(4) {
	case 0:
		x.tell(s.Commit(s.Seen()+1, x.changes()...))
	case 1:
		x.tell(s.Note(x.view()))
	case 2:
		x.tell(s.Stage(api.Node{Key: x.r.Intn(30), Epoch: x.big()}))
	default:
		s, e := store.Format(c)
		x.tell(s != nil, e)
	}
}

func (x *wild) step() {
	chip := x.number()
	switch x.r.Intn(12) {
	case 0, 1:
		m, e := mirror.Open(x.tie, x.chip(), x.chip())
		x.tell(m != nil, e)
		if m != nil {
			x.m = m
		}
	case 2:
		x.m.Replace(chip, x.chip())
	case 3:
		x.tell(x.m.Recall(chip))
	case 4:
		x.tell(x.m.Renew(chip))
	case 5:
		x.tell(x.m.Join(chip))
	case 6, 7:
		x.tell(x.m.Commit(x.changes()...))
	case 8:
		if x.r.Intn(5) == 0 {
			x.tie = view.NewTie()
		}
		m, e := mirror.Make(x.tie, x.chip(), x.chip())
		x.tell(m != nil, e)
		if m != nil {
			x.m = m
		}
	default:
		x.bends()
	}
	x.looks()
}

// looks asks for all that can be asked for.
func (x *wild) looks() {
	m := x.m
	lead, ok := m.Lead()
	x.tell(m.Epoch(), m.Live(), m.Limit(), lead, ok, m.Off(), m.View())
	for _, chip := range append(odd(), 0, 1) {
		_, ok := m.Store(chip)
		x.tell(m.Member(chip), m.Up(chip), ok, m.Lives(chip), m.Seen(chip))
	}
	for _, key := range append(oddKeys(), x.r.Intn(30), x.r.Intn(256)) {
		body, e := m.Node(key)
		x.tell(body, e)
		if e != api.OK && body != nil {
			x.tell("a body beside an error")
		}
	}
}

// P1, P2: whatever is done, by whomever, each call ends, none panics, and two runs give the same answers and do the same acts; also if both chips are one, or have power of their own.
func TestWild(t *testing.T) {
	t.Parallel()
	for seed := range int64(60) {
		one, two := newWild(seed), newWild(seed)
		if one.m == nil || two.m == nil {
			continue
		}
		for range 120 {
			one.step()
			two.step()
		}
		if !slices.Equal(one.told, two.told) || slices.Contains(one.told, "a body beside an error\n") {
			t.Errorf("seed %d: two runs differ, or there is a body beside an error", seed)
		}
		for i := range one.chips {
			if one.chips[i].Count() != two.chips[i].Count() || !slices.Equal(image(one.chips[i]), image(two.chips[i])) {
				t.Errorf("seed %d: the chip %d differs", seed, i)
			}
		}
	}
}

// Rule 6: each mirror is by itself; those over one tie and the same chips share these.
func TestMirrorsApart(t *testing.T) {
	x, y := made(t, "one"), made(t, "another one")
	x.commits(change(1, "a"))
	x.fences(1)
	y.is(1, nodes{})
	y.views(1, 3, 1)
	y.commits(change(2, "b"))
	x.is(3, nodes{1: "a"})
	x.views(2, 1, 2)
	m := x.m
	x.open()
	if m == x.m || m.View() != x.m.View() || m.Epoch() != x.m.Epoch() || m.Member(1) {
		t.Error("two mirrors over one tie and the same chips differ")
	}
}
