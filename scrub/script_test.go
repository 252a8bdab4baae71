package scrub_test

import (
	"fmt"
	"maps"
	"math/rand"
	"testing"

	"keelson/api"
	"keelson/mirror"
	"keelson/nand"
	"keelson/resync"
	"keelson/scrub"
)

// script is a mirror in the course of a random script, and what it should be.
type script struct {
	*scene
	rand   *rand.Rand
	back   *resync.Resync
	may    []nodes // what the nodes may be; one alone, if the power didn't go since the last call that was OK
	fails  map[*nand.Chip]int
	turned map[place]bool // the pages with a turned bit since the last pass
	log    []string
}

func newScript(t *testing.T, seed int64) *script {
	t.Helper()
	r := rand.New(rand.NewSource(seed))
	x := &script{rand: r, may: []nodes{{}}, fails: map[*nand.Chip]int{}, turned: map[place]bool{}}
	x.scene = made(t, fmt.Sprint("seed ", seed), 16+r.Intn(3), []int{2 + r.Intn(14)})
	x.back = resync.New(x.Mirror)
	return x
}

func (x *script) note(what ...any) { x.log = append(x.log, fmt.Sprintln(what...)) }

// fatal tells what went wrong, and all that was ahead of it.
func (x *script) fatal(what ...any) {
	x.t.Helper()
	x.t.Fatalf("%s: %sbehind %q", x.what, fmt.Sprintln(what...), x.log)
}

func (x *script) step() {
	chip := x.rand.Intn(2)
	switch n := x.rand.Intn(40); {
	case n < 3:
		x.open()
	case n < 5:
		x.out(chip)
	case n < 8:
		x.chips[chip].Put(true)
		x.note("in", chip)
	case n < 9:
		x.replace(chip)
	case n < 14:
		x.resyncs()
	case n < 22:
		x.turns()
	case n < 23:
		x.fail(chip)
	case n < 30:
		x.scrubs()
	default:
		x.commit()
	}
	x.check()
}

// others tells whether the other chip is a member that holds what it should.
func (x *script) others(chip int) bool {
	return x.Member(1-chip) && x.Up(1-chip) && len(x.may) == 1
}

func (x *script) out(chip int) {
	if x.others(chip) {
		x.chips[chip].Put(false)
		x.note("out", chip)
	}
}

// replace puts a blank chip in a chip's place, or that chip itself.
func (x *script) replace(chip int) {
	if !x.others(chip) {
		return
	}
	if x.rand.Intn(3) > 0 {
		x.chips[chip] = x.blank(16 + x.rand.Intn(3))
	}
	x.note("Replace", chip)
	x.Replace(chip, x.chips[chip])
}

// cuts lets the power go in what follows, once in so many times.
func (x *script) cuts(often int) {
	if x.rand.Intn(often) == 0 {
		after, keep := x.rand.Intn(14), keeps[x.rand.Intn(len(keeps))]
		x.p.Cut(after, keep)
		x.note("Cut", after, keep)
	}
}

// on lets there be power behind what was done; if it had gone the mirror is Opened, or used on.
func (x *script) on() {
	x.t.Helper()
	off := x.p.Off()
	x.p.On()
	switch {
	case !off:
	case x.rand.Intn(5) == 0:
		x.note("used on")
	default:
		x.open()
	}
}

// open Opens the mirror, till the power doesn't go in that.
func (x *script) open() {
	x.t.Helper()
	for e := api.ErrDown; e == api.ErrDown; {
		x.cuts(3)
		var m *mirror.Mirror
		m, e = mirror.Open(x.tie, x.chips[0], x.chips[1])
		x.p.On()
		x.note("Open", e, x.tie.Get())
		switch e {
		case api.OK:
			x.Mirror, x.s, x.back = m, scrub.New(m), resync.New(m)
			got := all(x.Node)
			if !got.in(x.may) {
				x.fatal("opened:", got, "not", x.may)
			}
			x.may = []nodes{got}
		case api.ErrDown:
		default:
			x.fatal("Open answers", e)
		}
	}
}

func (x *script) commit() {
	x.t.Helper()
	var changes []api.Change
	for _, key := range x.rand.Perm(19)[:[]int{0, 1, 1, 2, 3, 4, 5, 19}[x.rand.Intn(8)]] {
		if x.rand.Intn(4) == 0 {
			changes = append(changes, gone(key))
		} else {
			changes = append(changes, change(key, fmt.Sprint("body ", x.rand.Intn(1000))))
		}
	}
	is := all(x.Node).with(changes...)
	x.cuts(3)
	e := x.Commit(changes...)
	x.note("Commit", changes, e, x.tie.Get())
	switch e {
	case api.OK:
		x.may = []nodes{is}
	case api.ErrDown:
		x.may = append(x.may, is)
	default:
		x.fatal("Commit answers", e)
	}
	x.on()
}

// resyncs does some Steps of a Resync.
func (x *script) resyncs() {
	x.t.Helper()
	for chip := range x.chips {
		if x.rand.Intn(3) > 0 {
			x.chips[chip].Put(true)
		}
	}
	was, n := all(x.Node), x.rand.Intn(2*x.Limit())
	for range n {
		x.cuts(30)
		done, e := x.back.Step()
		x.note("Resync", done, e, x.tie.Get())
		if e != api.OK && (e != api.ErrDown || !x.p.Off()) {
			x.fatal("a Step of the Resync answers", e)
		}
		if x.p.Off() {
			x.on()
			was = all(x.Node)
		} else if got := all(x.Node); !maps.Equal(got, was) {
			x.fatal("a Step of the Resync:", got, "not", was)
		}
	}
	x.p.On()
}

// turns turns bits, of no page more than one.
func (x *script) turns() {
	n := 1 + x.rand.Intn(20)
	if x.rand.Intn(4) == 0 {
		n = 1000
	}
	for range n {
		c := x.chips[x.rand.Intn(2)]
		at := place{c, x.rand.Intn(c.Blocks()), x.rand.Intn(api.BlockPages)}
		if x.turned[at] {
			continue
		}
		x.turned[at] = true
		bit := []int{x.rand.Intn(2064), x.rand.Intn(200), 2063 - x.rand.Intn(16)}[x.rand.Intn(3)]
		c.Flip(at.block, at.page, bit)
		x.note("Flip", at.block, at.page, bit, c == x.chips[0])
	}
}

// fail lets an act that is to come fail, of each chip no more than two.
func (x *script) fail(chip int) {
	c := x.chips[chip]
	if x.fails[c]++; x.fails[c] > 2 {
		return
	}
	programs, which := x.rand.Intn(2) == 0, x.rand.Intn(10)
	c.Fail(programs, which)
	x.note("Fail", chip, programs, which)
}

// scrubs does a pass, in which the power may go.
func (x *script) scrubs() {
	x.t.Helper()
	was, members := all(x.Node), [2]bool{x.Member(0), x.Member(1)}
	if x.rand.Intn(3) == 0 {
		x.p.Cut(x.rand.Intn(60), keeps[x.rand.Intn(len(keeps))])
	}
	for {
		acts := x.acts()
		done, e := x.s.Step()
		if e != api.OK && (e != api.ErrDown || !x.p.Off()) {
			x.fatal("a Step of the Scrub answers", e)
		}
		if x.p.Off() {
			x.note("the power goes in a pass")
			x.on()
			x.s = scrub.New(x.Mirror)
			return
		}
		if x.acts() != acts && !maps.Equal(all(x.Node), was) {
			x.fatal("a Step of the Scrub:", all(x.Node), "not", was)
		}
		if done {
			break
		}
	}
	x.p.On()
	x.note("a pass", x.s.Mended())
	for at := range x.turned {
		for chip, c := range x.chips {
			if at.c == c && members[chip] && x.Up(chip) {
				delete(x.turned, at)
			}
		}
	}
}

// check tells of a mirror whose nodes aren't what they may be.
func (x *script) check() {
	x.t.Helper()
	x.p.On()
	if got := all(x.Node); !got.in(x.may) {
		x.fatal(got, "not", x.may)
	}
}

// ends lets the chips be members again, by Steps of the Resync alone.
func (x *script) ends() {
	x.t.Helper()
	if len(x.may) > 1 {
		// A Commit broke off, so that two members may still differ.
		x.open()
	}
	for _, c := range x.chips {
		c.Put(true)
	}
	x.note("it ends")
	for n, done := 0, false; !done; n++ {
		var e api.Errno
		if done, e = x.back.Step(); e != api.OK || n >= x.back.Most() {
			x.fatal("the Step", n, "of the Resync answers", e)
		}
	}
	x.both(x.may[0])
}

// P16.3, P16.5, P15.4, P15.5: in any order, with cuts, failures, chips that are taken out, put in and replaced, and come back, and one turned bit of each page between two passes at most: nothing is ever corrupt, the nodes are what they should be, and both chips are members in the end.
func TestScripts(t *testing.T) {
	t.Parallel()
	for seed := range int64(100) {
		x := newScript(t, seed)
		for range 200 {
			x.step()
		}
		x.ends()
	}
}
