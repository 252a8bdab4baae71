package scrub_test

import (
	"fmt"
	"math/rand"
	"testing"

	"keelson/api"
	"keelson/frame"
)

// full lets there be as many nodes as may be, of many epochs, so that room must be made.
func full(x *scene) {
	x.t.Helper()
	for i := range 30 {
		var changes []api.Change
		for key := i % 3; key < 19; key += 1 + i%7 {
			changes = append(changes, change(key, fmt.Sprint("round ", i, " of ", key)))
		}
		x.commits(changes...)
	}
}

// damage is what becomes of one chip.
type damage struct {
	name string
	do   func(x *scene, chip int)
}

// kind gives a damage: bits of all records of some kinds turn.
func kind(name string, bits []int, kinds ...byte) damage {
	return damage{name, func(x *scene, chip int) {
		x.t.Helper()
		list := x.pages(chip, func(p api.Page) bool {
			is, _, _, e := frame.Read(p)
			for _, k := range kinds {
				if e == api.OK && is == k {
					return true
				}
			}
			return false
		})
		if len(list) == 0 {
			x.t.Fatalf("%s: no such records", x.what)
		}
		for _, at := range list {
			x.flip(at, bits...)
		}
	}}
}

// damages are many of them.
func damages() []damage {
	list := []damage{
		kind("nodes", two, api.KindNode),
		kind("commits", two, api.KindCommit),
		kind("views", two, api.KindView),
		kind("heads", two, api.KindHead),
		kind("wear", two, api.KindWear),
		kind("the table", two, api.KindTable),
		kind("heads and nodes", two, api.KindHead, api.KindNode),
		kind("commits and views", two, api.KindCommit, api.KindView),
		kind("all", two, api.KindNode, api.KindCommit, api.KindView, api.KindHead, api.KindWear, api.KindTable),
		kind("many bits", []int{3, 5, 8, 13, 21, 34, 55, 89}, api.KindNode, api.KindCommit, api.KindView, api.KindHead),
		{"all records have faded", func(x *scene, chip int) {
			for _, at := range x.pages(chip, func(p api.Page) bool { _, _, _, e := frame.Read(p); return e == api.OK }) {
				x.fade(at)
			}
		}},
		{"each page, used or not", func(x *scene, chip int) {
			for _, at := range x.pages(chip, func(api.Page) bool { return true }) {
				x.flip(at, two...)
			}
		}},
	}
	for seed := range int64(12) {
		list = append(list, damage{fmt.Sprint("random bits ", seed), func(x *scene, chip int) {
			r := rand.New(rand.NewSource(seed))
			for range 30 << (seed % 6) {
				x.flip(place{x.chips[chip], r.Intn(16), r.Intn(api.BlockPages)}, r.Intn(2064))
			}
		}})
	}
	return list
}

// P16.4: whatever can't be read on one chip is whole again behind a pass, with the same nodes; also when that chip is opened alone; then the other one may lose all.
func TestWholeAgain(t *testing.T) {
	for _, d := range damages() {
		for chip := range 2 {
			for i, set := range []func(x *scene){few, full} {
				x := made(t, fmt.Sprintf("%s, the chip %d, %d", d.name, chip, i), 16)
				set(x)
				want, epoch, v := all(x.Node), x.Epoch(), x.View()
				for round := range 3 {
					turn := (chip + round) % 2
					d.do(x, turn)
					x.is("ahead", want)
					x.passes()
					x.both(want)
				}
				if x.Epoch() != epoch || x.View() != v {
					t.Errorf("%s: the epoch %d, the view %v", x.what, x.Epoch(), x.View())
				}
				x.anew()
				x.is("opened", want)
				if x.View() != v {
					t.Errorf("%s: a fence", x.what)
				}
			}
		}
	}
}

// P16.4: also if acts fail meanwhile, as long as there are spares.
func TestWholeAgainFailing(t *testing.T) {
	for _, d := range damages()[:9] {
		for which := range 24 {
			x := made(t, fmt.Sprintf("%s, the acts %d fail", d.name, which), 16)
			few(x)
			d.do(x, which%2)
			for _, c := range x.chips {
				c.Fail(true, which)
				c.Fail(false, which/4)
			}
			x.passes()
			x.both(fews)
		}
	}
}

// P16.3: one turned bit of each page between two passes, again and again, does nothing, whatever is written over pages with turned bits.
func TestAgainAndAgain(t *testing.T) {
	for i, set := range []func(x *scene){few, full} {
		x := made(t, fmt.Sprint("again and again, ", i), 16)
		set(x)
		want := all(x.Node)
		for round := range 40 {
			for chip := range 2 {
				for _, at := range x.pages(chip, func(api.Page) bool { return true }) {
					x.flip(at, (61*at.block+259*at.page+577*round)%2064)
				}
			}
			if round%3 == 0 {
				x.anew()
			}
			c := change(round%19, fmt.Sprint("round ", round))
			if _, ok := want[c.Key]; ok && round%2 == 0 {
				x.commits(c)
				want = want.with(c)
			}
			x.is("turned", want)
			x.passes()
			x.both(want)
		}
	}
}

// P16.3: what was written wholly as the power went stays what Open took it for, though a bit of that page had turned ahead of the last pass, and another one turns now.
func TestWrittenOverATurnedBit(t *testing.T) {
	for bit := range 16 {
		for acts, done := 0, false; !done; acts++ {
			x := made(t, fmt.Sprintf("the bit %d, Cut(%d, 258)", bit, acts), 16)
			x.fences(1, change(1, "a"))
			x.commits(change(2, "b"))
			for _, at := range x.pages(0, frame.Blank) {
				x.flip(at, bit)
			}
			x.passes()
			x.p.Cut(acts, 258)
			done = x.commitsDown(change(1, "new"))
			x.anew()
			want := all(x.Node)
			for _, at := range x.pages(0, func(api.Page) bool { return true }) {
				x.flip(at, 100)
			}
			x.anew()
			x.is("one bit more", want)
		}
	}
}

// commitsDown Commits while the power may go, and tells whether it didn't.
func (x *scene) commitsDown(changes ...api.Change) bool {
	x.t.Helper()
	e := x.Commit(changes...)
	x.p.On()
	if e != api.OK {
		x.want("Commit", e, api.ErrDown)
	}
	return e == api.OK
}

// P16.3: a page whose writing broke off is never read, though bits of it turn ahead of each of many passes.
func TestTornStaysTorn(t *testing.T) {
	for key := range 64 {
		for _, keep := range []int{255, 256, 257} {
			x := made(t, fmt.Sprint("the key ", key, ", keep ", keep), 16)
			x.commits(change(key, "a"))
			x.p.Cut(1, keep)
			x.commitsDown(change(key, "b"))
			x.anew()
			x.is("the power went", nodes{key: "a"})
			torn := x.pages(0, func(p api.Page) bool { _, _, _, e := frame.Read(p); return e == api.ErrCorrupt })
			if len(torn) != 1 {
				t.Fatalf("%s: %v", x.what, torn)
			}
			for _, bit := range []int{2063, 2062, 2061} {
				x.flip(torn[0], bit)
				x.anew()
				x.is("a bit has turned", nodes{key: "a"})
				x.passes()
			}
		}
	}
}
