package scrub_test

import (
	"fmt"
	"maps"
	"testing"

	"keelson/api"
	"keelson/mirror"
	"keelson/scrub"
)

// keeps are amounts of an act that may be kept: pages of an erase, bytes of a program.
var keeps = []int{-1, 0, 1, 2, 5, 8, 100, 129, 255, 256, 257, 258}

// need is what is to be mended, and without which chips all nodes are still there.
type need struct {
	name    string
	set     func(x *scene)
	without []int
}

// needs are many of them.
func needs() []need {
	any := []int{-1, 0, 1}
	turn := func(x *scene, chips ...int) {
		for _, chip := range chips {
			for _, at := range x.pages(chip, func(api.Page) bool { return true }) {
				x.flip(at, (61*at.block+259*at.page)%2064)
			}
		}
	}
	list := []need{
		{"one bit of each page", func(x *scene) { few(x); turn(x, 0, 1) }, any},
		{"one bit of each page, full", func(x *scene) { full(x); turn(x, 0, 1) }, any},
		{"one bit of each page, opened", func(x *scene) { few(x); turn(x, 0, 1); x.anew() }, any},
		{"one bit of each page, of the chip 1 alone", func(x *scene) { few(x); x.fences(0); turn(x, 1) }, []int{-1, 0}},
		{"a page that was torn", func(x *scene) {
			few(x)
			x.p.Cut(1, 257)
			x.commitsDown(change(5, "torn"))
			x.anew()
		}, any},
	}
	for _, d := range damages()[:11] {
		for chip := range 2 {
			list = append(list, need{fmt.Sprint(d.name, ", of the chip ", chip), func(x *scene) { few(x); d.do(x, chip) }, []int{-1, chip}})
		}
	}
	return list
}

// P16.5: no Step changes what the mirror tells; wherever the power goes in one, and whatever is kept, Open gives the same nodes, with both chips or without one; and all is mended by the next pass.
func TestCutAnywhere(t *testing.T) {
	t.Parallel()
	for _, n := range needs() {
		t.Run(n.name, func(t *testing.T) {
			t.Parallel()
			for i, keep := range keeps {
				for after, done := 0, false; !done; after++ {
					without := n.without[(i+after)%len(n.without)]
					x := made(t, fmt.Sprintf("%s, Cut(%d, %d), without %d", n.name, after, keep, without), 16)
					n.set(x)
					want, epoch := all(x.Node), x.Epoch()
					x.p.Cut(after, keep)
					done = x.tells(want)
					x.p.On()
					x.then(want, epoch, without)
				}
			}
		})
	}
}

// tells does a pass, in which the power may go, and tells whether it didn't; no Step changes what the mirror tells.
func (x *scene) tells(want nodes) bool {
	x.t.Helper()
	epoch, live, v := x.Epoch(), x.Live(), x.View()
	for n := 1; n <= pass; n++ {
		acts := x.acts()
		_, e := x.s.Step()
		if x.p.Off() {
			x.want("the power goes", e, api.ErrDown)
			return false
		}
		x.want("a Step", e, api.OK)
		if x.acts() == acts {
			continue
		}
		x.is(fmt.Sprint("the Step ", n), want)
		if x.Epoch() != epoch || x.Live() != live || x.View() != v {
			x.t.Fatalf("%s: the Step %d has changed something", x.what, n)
		}
	}
	return true
}

// then goes on behind a pass, in which the power may have gone: used on at first, or opened without a chip, or with both.
func (x *scene) then(want nodes, epoch uint64, without int) {
	x.t.Helper()
	x.is("used on", want)
	if without >= 0 {
		x.chips[without].Put(false)
	}
	x.anew()
	x.is("opened", want)
	if x.Epoch() != epoch {
		x.t.Fatalf("%s: the epoch %d, not %d", x.what, x.Epoch(), epoch)
	}
	x.passes()
	x.commits(change(5, "on"))
	x.is("a Commit", want.with(change(5, "on")))
}

// P16.5: and so it is if the power goes again and again, and the Scrub goes on, or another one begins.
func TestCutOften(t *testing.T) {
	t.Parallel()
	for _, n := range needs() {
		for often := range 8 {
			x := made(t, fmt.Sprintf("%s, each %d acts", n.name, often), 16)
			n.set(x)
			want := all(x.Node)
			for i := 0; ; i++ {
				x.p.Cut(often+i/4, keeps[i%len(keeps)])
				e := x.one()
				x.p.On()
				x.is("behind the cut", want)
				if e == api.OK {
					break
				}
				x.want("a Step", e, api.ErrDown)
				if i%3 == 0 {
					m, e := mirror.Open(x.tie, x.chips[0], x.chips[1])
					x.want("Open", e, api.OK)
					x.Mirror, x.s = m, scrub.New(m)
				}
			}
			x.anew()
			x.passes()
			for chip := range 2 {
				if x.Member(chip) && !maps.Equal(ofStore(x.store(chip)), want) {
					t.Fatalf("%s: the chip %d", x.what, chip)
				}
			}
		}
	}
}

// one does Steps up to the end of a pass, or an error.
func (x *scene) one() api.Errno {
	for {
		if done, e := x.s.Step(); done || e != api.OK {
			return e
		}
	}
}
