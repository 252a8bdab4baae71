package resync_test

import (
	"fmt"
	"testing"

	"keelson/api"
	"keelson/mirror"
)

// keeps are amounts of an act that may be kept: pages of an erase, bytes of a program.
var keeps = []int{-1, 0, 1, 5, 8, 130, 256, 257, 258}

// tells does Steps until one answers an error, or both are members; none changes what the mirror tells.
func (x *scene) tells() api.Errno {
	x.t.Helper()
	all, epoch, live := read(x.Mirror), x.Epoch(), x.Live()
	for range x.r.Most() {
		done, e := x.r.Step()
		if e != api.OK || done {
			return e
		}
		x.is("a Step", all)
		if x.Epoch() != epoch || x.Live() != live {
			x.t.Fatalf("%s: a Step has changed the epoch %d, or what is live", x.what, epoch)
		}
	}
	x.t.Fatalf("%s: the Steps don't end", x.what)
	return api.OK
}

// P15.5: no Step changes what the mirror tells; wherever the power goes in one, and whatever is kept, Open gives the same nodes, with both chips, or with either one, or does nothing; and the chip comes back.
func TestCutAnywhere(t *testing.T) {
	t.Parallel()
	for _, a := range absences() {
		t.Run(a.name, func(t *testing.T) {
			t.Parallel()
			for chip := range 2 {
				for i, keep := range keeps {
					for after := 0; ; after++ {
						x := made(t, fmt.Sprintf("%s, the chip %d, Cut(%d, %d)", a.name, chip, after, keep), 16)
						a.set(x, chip, 3)
						all := read(x.Mirror)
						x.p.Cut(after, keep)
						e := x.tells()
						x.p.On()
						if e == api.OK {
							x.alone(all)
							break
						}
						x.want("a Step", e, api.ErrDown)
						x.then(all, chip, (i+after)%4)
					}
				}
			}
		})
	}
}

// then goes on behind a cut: with the same mirror, or with another one, Opened with both chips, or without one of them at first.
func (x *scene) then(all nodes, chip, how int) {
	x.t.Helper()
	epoch := x.Epoch()
	switch how {
	case 0:
		x.is("used on", all)
	case 1:
		x.anew()
	default:
		without := how - 2
		x.chips[without].Put(false)
		acts, v := x.acts(), x.tie.Get()
		m, e := mirror.Open(x.tie, x.chips[0], x.chips[1])
		if e == api.OK {
			x.over(m)
			x.is("opened without a chip", all)
		} else if without == chip || m != nil || x.acts() != acts || x.tie.Get() != v {
			x.t.Fatalf("%s: without the chip %d: %v; or something was written", x.what, without, e)
		}
		x.chips[without].Put(true)
		if e != api.OK {
			x.anew()
		}
	}
	x.is("behind the cut", all)
	if x.Epoch() != epoch {
		x.t.Fatalf("%s: the epoch %d, not %d", x.what, x.Epoch(), epoch)
	}
	x.back()
	x.commits(change(50, "on"), gone(0))
	x.alone(all.with(change(50, "on"), gone(0)))
}

// P15.5: and so it is if the power goes again and again.
func TestCutOften(t *testing.T) {
	t.Parallel()
	for _, a := range absences() {
		for chip := range 2 {
			for often := range 12 {
				x := made(t, fmt.Sprintf("%s, the chip %d, each %d acts", a.name, chip, often), 16)
				a.set(x, chip, 5)
				all := read(x.Mirror)
				for n := 0; !x.Member(chip) || !x.Up(chip); n++ {
					x.p.Cut(often+n/8, keeps[n%len(keeps)])
					e := x.tells()
					x.p.On()
					if e != api.OK {
						x.want("a Step", e, api.ErrDown)
					}
					if n%3 == 0 {
						x.anew()
					}
					x.is("behind the cut", all)
				}
				x.alone(all)
			}
		}
	}
}
