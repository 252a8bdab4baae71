package mirror_test

import (
	"fmt"
	"maps"
	"math/rand"
	"slices"
	"testing"

	"keelson/api"
	"keelson/elect"
	"keelson/mirror"
	"keelson/nand"
	"keelson/node"
	"keelson/store"
)

// script is a mirror in the course of a random script, and what it should be.
type script struct {
	*scene
	r       *rand.Rand
	gentle  bool          // whether a member always lives that holds what it should
	may     []nodes       // what Open may give; one alone, if the power didn't go since the last call that was OK
	epoch   uint64        // of the last Commit, or Open, that was OK
	genuine [2]*nand.Chip // the chips that hold what they should, if they are members
	begun   *store.Store  // with which a chip is coming back
	fails   map[*nand.Chip]int
	turned  map[place]bool
	log     []string
}

// place is a page of a chip.
type place struct {
	c           *nand.Chip
	block, page int
}

func newScript(t *testing.T, seed int64) *script {
	t.Helper()
	r := rand.New(rand.NewSource(seed))
	x := &script{r: r, gentle: seed%3 > 0, may: []nodes{{}}, epoch: 1, fails: map[*nand.Chip]int{}, turned: map[place]bool{}}
	x.scene = blank(t, fmt.Sprint("seed ", seed), 16+r.Intn(3), 16+r.Intn(3), []int{2 + r.Intn(14)}, nil)
	x.scene.make()
	x.genuine = x.chips
	return x
}

func (x *script) note(what ...any) { x.log = append(x.log, fmt.Sprintln(what...)) }

// fatal tells what went wrong, and all that was ahead of it.
func (x *script) fatal(what ...any) {
	x.t.Helper()
	x.t.Fatalf("%s: %sbehind %q", x.what, fmt.Sprintln(what...), x.log)
}

func (x *script) step() {
	chip := x.r.Intn(2)
	switch n := x.r.Intn(60); {
	case n < 4:
		x.open()
	case n < 8:
		x.out(chip)
	case n < 13:
		x.chips[chip].Put(true)
		x.note("in", chip)
	case n < 15:
		x.replace(chip)
	case n < 17:
		x.recall(chip)
	case n < 18:
		x.renew(chip)
	case n < 24:
		x.both()
		for range x.r.Intn(40) {
			x.resync()
		}
	case n < 34:
		x.flip()
	case n < 35:
		x.fail(chip)
	default:
		x.commit()
	}
	x.check()
}

// others tells whether there is a chip that holds what it should beside this one.
func (x *script) others(chip int) bool {
	genuine := x.genuine
	genuine[chip] = nil
	return x.holder(genuine)
}

func (x *script) out(chip int) {
	if x.gentle && !x.others(chip) {
		return
	}
	x.chips[chip].Put(false)
	x.note("out", chip)
}

// replace puts a blank chip in a chip's place, or that chip itself.
func (x *script) replace(chip int) {
	c := x.chips[chip]
	if x.r.Intn(3) > 0 && x.others(chip) {
		c = x.other(16 + x.r.Intn(3))
	}
	x.note("Replace", chip, c == x.chips[chip])
	x.replaces(chip, c)
}

// both lets both chips be in, mostly.
func (x *script) both() {
	for chip := range 2 {
		if x.r.Intn(4) > 0 {
			x.chips[chip].Put(true)
			x.note("in", chip)
		}
	}
}

// cuts lets the power go in what follows, once in so many times.
func (x *script) cuts(often int) {
	if x.r.Intn(often) == 0 {
		after, keep := x.r.Intn(14), keeps[x.r.Intn(len(keeps))]
		x.p.Cut(after, keep)
		x.note("Cut", after, keep)
	}
}

// on lets there be power behind what was done; if it had gone the mirror is Opened, or used on.
func (x *script) on() {
	x.t.Helper()
	off := x.p.Off()
	x.p.On()
	if !off {
		return
	}
	if x.r.Intn(4) == 0 {
		x.note("used on")
		return
	}
	x.open()
}

// open Opens the mirror, till the power doesn't go in that.
func (x *script) open() {
	x.t.Helper()
	for e := api.ErrDown; e == api.ErrDown; {
		x.cuts(3)
		holder, acts := x.holder(x.genuine), x.acts()
		var m *mirror.Mirror
		m, e = mirror.Open(x.tie, x.chips[0], x.chips[1])
		x.p.On()
		x.note("Open", e, x.tie.Get())
		switch {
		case e == api.OK && holder:
			x.m = m
			x.opened()
		case e == api.ErrDown && holder:
		case e == api.ErrStale && !holder, e == api.ErrNoReplica && !holder:
			if m != nil || x.acts() != acts {
				x.fatal("a mirror is given, or something was written")
			}
		default:
			x.fatal("Open answers", e, "a member is there:", holder)
		}
	}
}

// opened looks at what was opened.
func (x *script) opened() {
	x.t.Helper()
	got := ofMirror(x.t, x.what, x.m)
	lead, ok := x.m.Lead()
	if !ok || !x.m.Member(lead) || x.m.Epoch() < x.epoch || !got.in(x.may) {
		x.fatal("opened: the lead", lead, ok, "of the epoch", x.m.Epoch(), got, "not", x.may, "of", x.epoch)
	}
	x.may, x.epoch = []nodes{got}, x.m.Epoch()
	x.settled(got)
}

// settled tells of members that hold other nodes than the mirror, or are of another epoch.
func (x *script) settled(all nodes) {
	x.t.Helper()
	for chip, c := range x.chips {
		if !x.m.Member(chip) || !c.Live() {
			continue
		}
		got := ofChip(x.t, x.what, c)
		if s := x.store(chip); !maps.Equal(got, all) || s.Epoch() != x.m.Epoch() || s.Last() != x.m.Seen(chip).Last {
			x.fatal("the chip", chip, "holds", got, "of the epoch", s.Epoch(), "not", all, "of", x.m.Epoch())
		}
	}
}

// change gives a change, by which there may be a node more.
func (x *script) change(key int) api.Change {
	if x.r.Intn(4) == 0 {
		return gone(key)
	}
	return change(key, fmt.Sprint("body ", x.r.Intn(1000)))
}

func (x *script) commit() {
	x.t.Helper()
	var changes []api.Change
	for _, key := range x.r.Perm(22)[:[]int{0, 1, 1, 2, 3, 4, 5, 19}[x.r.Intn(8)]] {
		changes = append(changes, x.change(key))
	}
	_, leads := x.m.Lead()
	was, above := nodes{}, uint64(0)
	if leads {
		was, above = ofMirror(x.t, x.what, x.m), x.m.Epoch()
	}
	is, limit := was.with(changes...), x.m.Limit()
	acts, v := x.acts(), x.tie.Get()
	x.cuts(3)
	e := x.m.Commit(changes...)
	x.note("Commit", changes, e, x.tie.Get())
	switch {
	case !leads && e == api.ErrDead, leads && len(is) > limit && e == api.ErrNoSpace:
		if x.acts() != acts || x.tie.Get() != v {
			x.fatal("something was written")
		}
	case e == api.ErrDown:
		x.may = append(x.may, is)
	case e != api.OK || !leads || len(is) > limit:
		x.fatal("Commit answers", e)
	default:
		if got := ofMirror(x.t, x.what, x.m); !maps.Equal(got, is) || x.m.Epoch() <= above {
			x.fatal("behind it", got, "of the epoch", x.m.Epoch(), "not", is)
		}
		x.may, x.epoch = []nodes{is}, x.m.Epoch()
		x.settled(is)
	}
	x.on()
}

func (x *script) recall(chip int) {
	x.t.Helper()
	x.cuts(3)
	e := x.m.Recall(chip)
	x.note("Recall", chip, e, x.tie.Get())
	x.on()
}

func (x *script) renew(chip int) {
	x.t.Helper()
	x.cuts(3)
	e := x.m.Renew(chip)
	x.note("Renew", chip, e, x.tie.Get())
	x.on()
}

// resync does a step by which the chip that isn't the lead comes back.
func (x *script) resync() {
	x.t.Helper()
	lead, ok := x.m.Lead()
	other := 1 - lead
	if !ok || !x.m.Lives(other) || x.m.Member(other) && x.m.Up(other) {
		return
	}
	x.cuts(30)
	var e api.Errno
	if x.m.Up(other) {
		e = x.bringsBack(lead, other)
	} else {
		e = x.m.Recall(other)
		x.note("Recall", other, e, x.tie.Get())
		if e == api.ErrNoLog && !x.m.Member(other) {
			e = x.m.Renew(other)
			x.note("Renew", other, e)
		}
	}
	if e != api.OK && e != api.ErrDown {
		x.fatal("a step answers", e)
	}
	x.on()
}

// bringsBack does a step with a chip that is up.
func (x *script) bringsBack(lead, other int) api.Errno {
	x.t.Helper()
	s, from := x.store(other), x.store(lead)
	e := api.OK
	if x.begun != s {
		x.begun = s
		if !elect.Suffix(x.tie.Get(), x.m.Seen(other), x.m.Seen(lead)) {
			e = x.anew(other)
		}
		x.note("begun", other, e)
		return e
	}
	for _, key := range node.Keys(from.Live()) {
		n, _, e := from.Node(key)
		if e != api.OK {
			x.fatal("the lead's node", key, e)
		}
		if s.Holds(key, n.Epoch) {
			continue
		}
		e = s.Stage(n)
		x.note("Stage", other, key, e)
		if e == api.ErrNoSpace || e == api.ErrArg {
			e = x.anew(other)
		}
		return e
	}
	if s.Last() != from.Last() {
		e := s.Finish(from.Last())
		x.note("Finish", other, e)
		switch {
		case e == api.ErrForm, e == api.ErrArg:
			e = x.anew(other)
		case e == api.ErrNoSpace && len(node.Keys(from.Live())) > s.Limit():
			// It is too small to come back, as long as there are so many.
			e = api.OK
		}
		return e
	}
	e = x.m.Join(other)
	x.note("Join", other, e, x.tie.Get())
	if e == api.OK {
		x.genuine[other] = x.chips[other]
		x.settled(ofMirror(x.t, x.what, x.m))
	}
	return e
}

// anew lets a chip come back from nothing.
func (x *script) anew(other int) api.Errno {
	e := x.m.Renew(other)
	x.begun, _ = x.m.Store(other)
	return e
}

// flip turns bits, of no page more than one.
func (x *script) flip() {
	for range 1 + x.r.Intn(20) {
		c := x.chips[x.r.Intn(2)]
		at := place{c, x.r.Intn(c.Blocks()), x.r.Intn(api.BlockPages)}
		if x.turned[at] {
			continue
		}
		x.turned[at] = true
		want(x.t, "Flip", c.Flip(at.block, at.page, x.r.Intn(2064)), api.OK)
	}
	x.note("Flip")
}

// fail lets an act that is to come fail, of each chip no more than two.
func (x *script) fail(chip int) {
	c := x.chips[chip]
	if x.fails[c]++; x.fails[c] > 2 {
		return
	}
	programs, which := x.r.Intn(2) == 0, x.r.Intn(10)
	c.Fail(programs, which)
	x.note("Fail", chip, programs, which)
}

// check tells of a mirror whose nodes aren't what they may be.
func (x *script) check() {
	x.t.Helper()
	if _, ok := x.m.Lead(); !ok {
		return
	}
	if got := ofMirror(x.t, x.what, x.m); !got.in(x.may) {
		x.fatal(got, "not", x.may)
	}
	if x.t.Failed() {
		x.fatal("it has failed")
	}
}

// P14.6, P14.7: in any order, with cuts, failures, turned bits, chips that are taken out, put in and replaced, and come back.
func TestScripts(t *testing.T) {
	t.Parallel()
	for seed := range int64(150) {
		x := newScript(t, seed)
		for range 120 {
			x.step()
		}
	}
}

// P2: two runs of the same calls give the same answers, and do the same acts.
func TestTwoRuns(t *testing.T) {
	t.Parallel()
	for seed := range int64(10) {
		one, two := newScript(t, seed), newScript(t, seed)
		for range 120 {
			one.step()
			two.step()
		}
		if !slices.Equal(one.log, two.log) || one.state() != two.state() {
			t.Errorf("seed %d: two runs differ", seed)
		}
		for chip := range 2 {
			if one.chips[chip].Count() != two.chips[chip].Count() || !slices.Equal(image(one.chips[chip]), image(two.chips[chip])) {
				t.Errorf("seed %d: the chip %d differs", seed, chip)
			}
		}
	}
}
