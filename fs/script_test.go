package fs_test

import (
	"fmt"
	"maps"
	"math/rand"
	"testing"

	"keelson/api"
	"keelson/fs"
	"keelson/mirror"
	"keelson/nand"
	"keelson/node"
	"keelson/plain"
	"keelson/resync"
	"keelson/scrub"
	"keelson/wear"
)

// place is a page of a chip.
type place struct {
	c           *nand.Chip
	block, page int
}

// script is files in the course of a random script, and what they should be.
type script struct {
	*scene
	rand   *rand.Rand
	back   *resync.Resync
	scrub  *scrub.Scrub
	storms bool         // whether the power goes now and then
	may    []plain.Kept // what may be Mounted; one alone, if the power didn't go since the last OpSync that was OK, or Mount
	fails  map[*nand.Chip]int
	turned map[place]bool // the pages with a turned bit since the last pass
	met    map[int]map[api.Errno]bool
	log    []string
}

func newScript(t *testing.T, seed int64, storms bool) *script {
	t.Helper()
	r := rand.New(rand.NewSource(seed))
	x := &script{rand: r, storms: storms, may: []plain.Kept{plain.Empty()}, fails: map[*nand.Chip]int{}, turned: map[place]bool{}, met: map[int]map[api.Errno]bool{}}
	x.scene = made(t, fmt.Sprint("seed ", seed), 16+r.Intn(9), []int{2 + r.Intn(14)})
	x.anew()
	return x
}

// anew lets there be a Resync and a Scrub of the mirror.
func (x *script) anew() { x.back, x.scrub = resync.New(x.m), scrub.New(x.m) }

func (x *script) note(what ...any) { x.log = append(x.log, fmt.Sprintln(what...)) }

// fatal tells what went wrong, and all that was ahead of it.
func (x *script) fatal(what ...any) {
	x.t.Helper()
	x.t.Fatalf("%s: %sbehind %q", x.what, fmt.Sprintln(what...), x.log)
}

func (x *script) step() {
	x.t.Helper()
	chip := x.rand.Intn(2)
	switch n := x.rand.Intn(60); {
	case n < 2:
		x.mounts()
	case n < 5:
		x.out(chip)
	case n < 8:
		x.chips[chip].Put(true)
		x.note("in", chip)
	case n < 9:
		x.replaces(chip)
	case n < 14:
		x.resyncs()
	case n < 17:
		x.turns()
	case n < 18:
		x.fail(chip)
	case n < 21:
		x.scrubs()
	case n < 26:
		x.keeps()
	default:
		x.ask(x.some())
	}
	x.p.On()
}

// ask does an operation that isn't OpSync.
func (x *script) ask(o api.Op) {
	x.t.Helper()
	x.note(o.Kind, o.Path, o.To, o.H, o.Off, o.N, len(o.Data))
	a, want := x.f.Do(o), x.plain.Do(o)
	if !plain.Same(a, want) {
		x.fatal(o, a, "not", want)
	}
	if x.met[o.Kind] == nil {
		x.met[o.Kind] = map[api.Errno]bool{}
	}
	x.met[o.Kind][a.Code] = true
}

// some gives an operation that isn't OpSync.
func (x *script) some() api.Op { return x.plain.Some(x.rand.Intn) }

// keeps does an OpSync.
func (x *script) keeps() {
	x.t.Helper()
	x.cuts(3)
	a := x.f.Do(op(api.OpSync))
	x.note("OpSync", a, x.tie.Get())
	if x.p.Off() {
		if !plain.Same(a, api.Answer{Code: api.ErrDown}) {
			x.fatal("OpSync answers", a)
		}
		x.may = append(x.may, x.plain.Kept())
		x.on()
		return
	}
	if want := x.plain.Do(op(api.OpSync)); !plain.Same(a, want) {
		x.fatal("OpSync answers", a, "not", want)
	}
	if a.Code == api.OK {
		x.may = []plain.Kept{x.plain.Kept()}
	}
}

// needs tells whether a chip is needed: the other one isn't a member that is up.
func (x *script) needs(chip int) bool { return !x.f.Member(1-chip) || !x.f.Up(1-chip) }

func (x *script) out(chip int) {
	if !x.needs(chip) {
		x.chips[chip].Put(false)
		x.note("out", chip)
	}
}

// replaces puts a blank chip in a chip's place, or that chip itself.
func (x *script) replaces(chip int) {
	if x.needs(chip) {
		return
	}
	if x.rand.Intn(3) > 0 {
		x.chips[chip].Die()
		x.chips[chip] = x.blank(16 + x.rand.Intn(9))
	}
	x.note("Replace", chip)
	x.f.Replace(chip, x.chips[chip])
}

// cuts lets the power go in what follows, once in so many times.
func (x *script) cuts(often int) {
	if x.storms && x.rand.Intn(often) == 0 {
		after, keep := x.rand.Intn(14), keeps[x.rand.Intn(len(keeps))]
		x.p.Cut(after, keep)
		x.note("Cut", after, keep)
	}
}

// on lets there be power behind what was done; if it had gone all is Mounted anew, or used on.
func (x *script) on() {
	x.t.Helper()
	off := x.p.Off()
	x.p.On()
	switch {
	case !off:
	case x.rand.Intn(4) == 0:
		x.note("used on")
	default:
		x.mounts()
	}
}

// mounts Opens the mirror, till the power doesn't go in that, and Mounts it.
func (x *script) mounts() {
	x.t.Helper()
	for e := api.ErrDown; e == api.ErrDown; {
		x.cuts(3)
		var m *mirror.Mirror
		m, e = mirror.Open(x.tie, x.chips[0], x.chips[1])
		x.p.On()
		x.note("Open", e, x.tie.Get())
		switch e {
		case api.OK:
			x.m = m
		case api.ErrDown:
		default:
			x.fatal("Open answers", e)
		}
	}
	f, e := fs.Mount(x.m)
	if e != api.OK {
		x.fatal("Mount answers", e)
	}
	got := plain.Read(f.Do)
	if !got.In(x.may...) {
		x.fatal("mounted:", got, "not", x.may)
	}
	x.may = []plain.Kept{got}
	x.holding(f, got)
	x.anew()
}

// resyncs does some Steps of a Resync.
func (x *script) resyncs() {
	x.t.Helper()
	for chip := range x.chips {
		if x.rand.Intn(3) > 0 {
			x.chips[chip].Put(true)
		}
	}
	for range x.rand.Intn(2 * x.f.Limit()) {
		x.cuts(30)
		done, e := x.back.Step()
		x.note("Resync", done, e, x.tie.Get())
		if e != api.OK && (e != api.ErrDown || !x.p.Off()) && (e != api.ErrNoSpace || !x.lesser()) {
			x.fatal("a Step of the Resync answers", e)
		}
		x.on()
		if x.rand.Intn(4) == 0 {
			x.ask(x.some())
		}
	}
}

// lesser tells whether a chip that isn't a member is too small for what there is.
func (x *script) lesser() bool {
	for chip, c := range x.chips {
		limit := wear.Room(c.Blocks() - api.Reserved - api.Spares)
		if !x.f.Member(chip) && limit < len(node.Keys(x.f.Live())) {
			return true
		}
	}
	return false
}

// turns turns bits, of no page more than one.
func (x *script) turns() {
	for range 1 + x.rand.Intn(60) {
		c := x.chips[x.rand.Intn(2)]
		at := place{c, x.rand.Intn(c.Blocks()), x.rand.Intn(api.BlockPages)}
		if x.turned[at] {
			continue
		}
		x.turned[at] = true
		bit := []int{x.rand.Intn(2064), x.rand.Intn(200), 2063 - x.rand.Intn(16)}[x.rand.Intn(3)]
		c.Flip(at.block, at.page, bit)
		x.note("Flip", at.block, at.page, bit, c == x.chips[0])
	}
}

// fail lets an act that is to come fail, of each chip no more than two.
func (x *script) fail(chip int) {
	c := x.chips[chip]
	if x.fails[c]++; x.fails[c] > 2 {
		return
	}
	programs, which := x.rand.Intn(2) == 0, x.rand.Intn(10)
	c.Fail(programs, which)
	x.note("Fail", chip, programs, which)
}

// scrubs does a pass, in which the power may go.
func (x *script) scrubs() {
	x.t.Helper()
	members := [2]bool{x.f.Member(0), x.f.Member(1)}
	if x.storms && x.rand.Intn(3) == 0 {
		x.p.Cut(x.rand.Intn(60), keeps[x.rand.Intn(len(keeps))])
	}
	for {
		done, e := x.scrub.Step()
		if e != api.OK && (e != api.ErrDown || !x.p.Off()) {
			x.fatal("a Step of the Scrub answers", e)
		}
		if x.p.Off() {
			x.note("the power goes in a pass")
			x.on()
			x.anew()
			return
		}
		if done {
			break
		}
		if x.rand.Intn(50) == 0 {
			x.ask(x.some())
		}
	}
	x.p.On()
	x.note("a pass", x.scrub.Mended())
	for at := range x.turned {
		for chip, c := range x.chips {
			if at.c == c && members[chip] && x.f.Member(chip) && x.f.Up(chip) {
				delete(x.turned, at)
			}
		}
	}
}

// ends lets the chips be members again, and either one tell what is kept.
func (x *script) ends() {
	x.t.Helper()
	for _, c := range x.chips {
		c.Put(true)
	}
	x.mounts()
	x.note("it ends")
	if x.lesser() { // it never comes back
		lead, _ := x.f.Lead()
		x.chips[1-lead] = x.blank(24)
		x.f.Replace(1-lead, x.chips[1-lead])
	}
	for n, done := 0, false; !done; n++ {
		var e api.Errno
		if done, e = x.back.Step(); e != api.OK || n >= x.back.Most() {
			x.fatal("the Step", n, "of the Resync answers", e)
		}
	}
	x.walks()
	for chip := range x.chips {
		x.chips[chip].Put(false)
		x.walks()
		x.chips[chip].Put(true)
	}
	x.mounts()
}

// P23.3: whatever Steps are done, whatever becomes of the chip that isn't needed, whatever acts fail while there are spares, and with a turned bit a page: all answers are those of a tree in memory; each is met.
func TestScripts(t *testing.T) {
	t.Parallel()
	met := map[int]map[api.Errno]bool{}
	for seed := range int64(60) {
		x := newScript(t, seed, false)
		for range 300 {
			x.step()
		}
		x.walks()
		x.ends()
		for kind, codes := range x.met {
			if met[kind] == nil {
				met[kind] = map[api.Errno]bool{}
			}
			maps.Copy(met[kind], codes)
		}
	}
	for kind, codes := range map[int][]api.Errno{
		api.OpCreate:   {api.ErrName, api.ErrExists, api.ErrNone, api.ErrNotDir, api.ErrNoSpace, api.ErrMany},
		api.OpMkdir:    {api.ErrName, api.ErrExists, api.ErrNone, api.ErrNotDir, api.ErrNoSpace, api.ErrMany},
		api.OpOpen:     {api.ErrName, api.ErrNone, api.ErrNotDir, api.ErrIsDir, api.ErrMany},
		api.OpClose:    {api.ErrHandle},
		api.OpRead:     {api.ErrHandle, api.ErrArg},
		api.OpWrite:    {api.ErrHandle, api.ErrArg, api.ErrBig, api.ErrNoSpace},
		api.OpTruncate: {api.ErrHandle, api.ErrArg, api.ErrBig, api.ErrNoSpace},
		api.OpRename:   {api.ErrName, api.ErrArg, api.ErrNone, api.ErrNotDir, api.ErrLoop, api.ErrExists},
		api.OpUnlink:   {api.ErrName, api.ErrNone, api.ErrNotDir, api.ErrIsDir, api.ErrBusy},
		api.OpRmdir:    {api.ErrName, api.ErrArg, api.ErrNone, api.ErrNotDir, api.ErrNotEmpty},
		api.OpList:     {api.ErrName, api.ErrNone, api.ErrNotDir},
		api.OpStat:     {api.ErrName, api.ErrNone, api.ErrNotDir},
	} {
		for _, e := range append(codes, api.OK) {
			if !met[kind][e] {
				t.Errorf("the operation %d never answers %v", kind, e)
			}
		}
	}
}

// P23.3, P23.4: the same, and the power goes now and then, in whatever is done: what is Mounted then is what was kept, or Mounted, last, or that of an OpSync in which the power went since, whole.
func TestStorms(t *testing.T) {
	t.Parallel()
	for seed := range int64(80) {
		x := newScript(t, 1000+seed, true)
		for range 300 {
			x.step()
		}
		x.walks()
		x.ends()
	}
}
