package world_test

import (
	"fmt"
	"math"
	"strings"
	"testing"

	"keelson/api"
	"keelson/plain"
	"keelson/world"
)

// odd are numbers at the edges of what an int holds, and of what means something.
var odd = []int{math.MinInt, math.MinInt + 1, math.MinInt32, -8, -1, 0, 1, 2, 8, 127, 128, 143, 144, 255, 256, 2063, 2064, 1 << 32, 1<<32 + 1, math.MaxInt32, math.MaxInt - 1, math.MaxInt}

// keeps are amounts of an act that may be kept: pages of an erase, bytes of a program.
var keeps = []int{-1, 0, 1, 5, 8, 130, 256, 257, 258, 999}

// pass is how many EvScrubs look at all.
const pass = 257

// names are the events' names, by their kinds.
func names() []string {
	return []string{"none", "Op", "Mount", "Cut", "Fail", "Flip", "Die", "Out", "In", "New", "Resync", "Scrub"}
}

// name gives an event as it is told of.
func name(e api.Event) string {
	if e.Kind == api.EvOp {
		return fmt.Sprintf("Op %d %q %q %d %d %d, %d bytes", e.Op.Kind, e.Op.Path, e.Op.To, e.Op.H, e.Op.Off, e.Op.N, len(e.Op.Data))
	}
	if e.Kind < 0 || e.Kind >= len(names()) {
		return fmt.Sprint(e)
	}
	return fmt.Sprint(names()[e.Kind], " ", e.Chip, " ", e.N, " ", e.Keep)
}

// op gives an operation on paths.
func op(kind int, paths ...string) api.Op {
	paths = append(paths, "", "")
	return api.Op{Kind: kind, Path: paths[0], To: paths[1]}
}

// fate is what became of a chip.
type fate struct {
	out, dead bool
	blank     bool         // another one is in its place that holds nothing, and the view tells of it as a member
	turned    map[int]bool // the pages with a turned bit since the last pass in which it was a member
}

// course is a world in the course of events, and what should be in it.
type course struct {
	t       *testing.T
	what    string
	w       *world.World
	blocks  int
	tree    *plain.Tree  // nil, if nothing is mounted
	may     []plain.Kept // what may be mounted; one alone, if the power didn't go since the last OpSync that was OK, or EvMount
	chips   [2]fate
	looked  int     // how many EvScrubs of this pass there were
	looking [2]bool // the chips that were members in all of these
	wears   bool    // whether there may be more failures than spares
	ruins   bool    // whether what can't be read may be on both chips
	met     map[string]int
	log     []string
}

// begun gives a world of so many blocks.
func begun(t *testing.T, what string, blocks int) *course {
	t.Helper()
	w, e := world.New(blocks)
	if w == nil || e != api.OK {
		t.Fatalf("%s: New(%d): %v", what, blocks, e)
	}
	x := &course{t: t, what: what, w: w, blocks: blocks, met: map[string]int{}}
	for chip := range x.chips {
		x.chips[chip].turned = map[int]bool{}
	}
	x.holding(plain.Empty())
	return x
}

// fatal tells what went wrong, and all that was ahead of it.
func (x *course) fatal(what ...any) {
	x.t.Helper()
	x.t.Fatalf("%s: %s behind\n%s", x.what, strings.TrimSpace(fmt.Sprintln(what...)), strings.Join(x.log, "\n"))
}

// holding lets a tree be mounted.
func (x *course) holding(k plain.Kept) {
	x.may = []plain.Kept{k}
	x.tree = plain.New(k, x.w.Limit)
}

// member tells whether the view has a chip.
func (x *course) member(chip int) bool { return x.w.View().Members>>chip&1 == 1 }

// lives tells whether a chip answers.
func (x *course) lives(chip int) bool { return !x.chips[chip].out && !x.chips[chip].dead }

// has tells whether a chip lives that is a member, and has all.
func (x *course) has(chip int) bool {
	return x.lives(chip) && x.member(chip) && !x.chips[chip].blank
}

// acts gives how many acts there were of the chips that are there.
func (x *course) acts() int { return x.w.Count(0) + x.w.Count(1) }

// does lets something happen, and tells of what shouldn't be behind that.
func (x *course) does(e api.Event) api.Answer {
	x.t.Helper()
	lead, acts, view := x.has(0) || x.has(1), x.acts(), x.w.View()
	a := x.w.Do(e)
	x.log = append(x.log, fmt.Sprint(name(e), ": ", a.Code, ", ", x.w.View(), x.w.Mounted(), x.w.Off()))
	if e.Kind != api.EvOp && !plain.Same(a, api.Answer{Code: a.Code}) {
		x.fatal("more than a code:", a)
	}
	switch e.Kind {
	case api.EvOp:
		x.answered(e.Op, a, lead)
	case api.EvMount:
		x.mounted(e, a.Code, lead, x.acts() != acts)
	case api.EvResync, api.EvScrub:
		x.stepped(e.Kind, a.Code, lead)
	default:
		x.bent(e, a.Code)
		if x.w.View() != view || x.acts() > acts {
			x.fatal("there are acts, or another view")
		}
	}
	x.settles()
	return a
}

// settles tells of a world that doesn't fit itself, and lets what should be in it be what it is now.
func (x *course) settles() {
	x.t.Helper()
	if x.w.Off() {
		x.tree = nil
	}
	if x.w.Mounted() != (x.tree != nil) {
		x.fatal("Mounted:", x.w.Mounted(), "Off:", x.w.Off())
	}
	if !x.w.Mounted() && (x.w.Limit() != 0 || x.w.Steps() != 0) {
		x.fatal("nothing is mounted, but Limit and Steps are", x.w.Limit(), x.w.Steps())
	}
	for chip := range x.chips {
		x.chips[chip].blank = x.chips[chip].blank && x.member(chip)
	}
}

// answered tells of an answer to an operation that isn't right; lead tells whether there was a chip that has all.
func (x *course) answered(o api.Op, a api.Answer, lead bool) {
	x.t.Helper()
	switch {
	case x.tree == nil:
		x.only(a, api.ErrStep)
	case !lead:
		x.only(a, api.ErrDead)
	case o.Kind == api.OpSync:
		x.synced(a)
	case x.ruins && plain.Same(a, api.Answer{Code: api.ErrCorrupt}):
		x.met["ErrCorrupt"]++
	default:
		if want := x.tree.Do(o); !plain.Same(a, want) {
			x.fatal(a, "not", want)
		}
	}
}

// only tells of an answer that isn't an error alone.
func (x *course) only(a api.Answer, e api.Errno) {
	x.t.Helper()
	if !plain.Same(a, api.Answer{Code: e}) {
		x.fatal(a, "not", e, "alone")
	}
}

// synced tells of an answer to an OpSync that isn't right.
func (x *course) synced(a api.Answer) {
	x.t.Helper()
	x.only(a, a.Code)
	switch {
	case x.w.Off() && a.Code == api.ErrDown:
		x.met["a cut OpSync"]++
		x.may = append(x.may, x.tree.Kept())
	case x.w.Off(), a.Code != api.OK && (!x.wears || a.Code != api.ErrWorn):
		x.fatal("OpSync answers", a)
	case a.Code == api.OK:
		x.met["an OpSync"]++
		x.tree.Do(op(api.OpSync))
		x.may = []plain.Kept{x.tree.Kept()}
	default:
		x.met["a worn OpSync"]++
	}
}

// mounted tells of an EvMount that wasn't right.
func (x *course) mounted(e api.Event, code api.Errno, lead, acts bool) {
	x.t.Helper()
	x.tree, x.looked = nil, 0
	x.met[fmt.Sprint("mount ", code)]++
	switch {
	case code == api.OK && x.w.Mounted():
		got := plain.Read(func(o api.Op) api.Answer { return x.w.Do(api.Event{Kind: api.EvOp, Op: o}) })
		if !got.In(x.may...) {
			x.fatal("mounted:", got, "not", x.may)
		}
		if len(x.may) > 1 && got.In(x.may[1:]...) {
			x.met["behind a cut"]++
		} else if len(x.may) > 1 {
			x.met["ahead of a cut"]++
		}
		x.holding(got)
	case code == api.ErrDown && e.N > 0 && x.w.Off():
	case (code == api.ErrStale || code == api.ErrNoReplica) && !acts && !lead:
	case code == api.ErrWorn && x.wears:
	default:
		x.fatal("EvMount answers", code)
	}
}

// stepped tells of a step that wasn't right.
func (x *course) stepped(kind int, code api.Errno, lead bool) {
	x.t.Helper()
	want := api.OK
	switch {
	case x.tree == nil:
		want = api.ErrStep
	case x.w.Off():
		want = api.ErrDown
	case !lead:
		want = api.ErrDead
	}
	worn := x.wears && lead && code == api.ErrWorn
	if corrupt := x.ruins && code == api.ErrCorrupt; code != want && !worn && !corrupt {
		x.fatal("a step answers", code, "not", want)
	}
	if kind == api.EvScrub {
		x.scrubbed(code)
	}
}

// scrubbed counts an EvScrub.
func (x *course) scrubbed(code api.Errno) {
	if code == api.ErrStep || code == api.ErrDead {
		return
	}
	if x.looked == 0 {
		x.looking = [2]bool{true, true}
	}
	x.looked++
	for chip := range x.chips {
		x.looking[chip] = x.looking[chip] && x.has(chip)
		if x.looked == pass && x.looking[chip] && code == api.OK {
			clear(x.chips[chip].turned)
		}
	}
	x.looked %= pass
}

// bent tells of what becomes of the power, or of a chip.
func (x *course) bent(e api.Event, code api.Errno) {
	x.t.Helper()
	is := e.Chip == 0 || e.Chip == 1
	want := api.OK
	if e.Kind < api.EvCut || e.Kind > api.EvNew || e.Kind != api.EvCut && !is {
		want = api.ErrStep
	} else if e.Kind == api.EvFlip && (e.N < 0 || e.N >= x.blocks*api.BlockPages || e.Keep < 0 || e.Keep >= 8*api.PageSize) {
		want = api.ErrArg
	}
	if code != want {
		x.fatal("the code isn't", want)
	}
	if code != api.OK || !is {
		return
	}
	f := &x.chips[e.Chip]
	switch e.Kind {
	case api.EvFlip:
		f.turned[e.N] = true
	case api.EvDie:
		f.dead = true
	case api.EvOut, api.EvIn:
		f.out = e.Kind == api.EvOut
	case api.EvNew:
		*f = fate{blank: x.member(e.Chip), turned: map[int]bool{}}
	}
}

// adds adds what was met to what others have met.
func (x *course) adds(met map[string]int) {
	for s, n := range x.met {
		met[s] += n
	}
}

// code lets something happen, and gives the code.
func (x *course) code(kind, chip, n, keep int) api.Errno {
	x.t.Helper()
	return x.does(api.Event{Kind: kind, Chip: chip, N: n, Keep: keep}).Code
}

// ok lets something happen that must be OK.
func (x *course) ok(kind, chip, n, keep int) {
	x.t.Helper()
	if e := x.code(kind, chip, n, keep); e != api.OK {
		x.fatal(e)
	}
}

// asks does an operation.
func (x *course) asks(o api.Op) api.Answer {
	x.t.Helper()
	return x.does(api.Event{Kind: api.EvOp, Op: o})
}

// oks does operations that must be OK.
func (x *course) oks(list ...api.Op) {
	x.t.Helper()
	for _, o := range list {
		if a := x.asks(o); a.Code != api.OK {
			x.fatal(a)
		}
	}
}

// syncs does an OpSync that must be OK.
func (x *course) syncs() {
	x.t.Helper()
	x.oks(op(api.OpSync))
}

// mounts does an EvMount that must be OK.
func (x *course) mounts() {
	x.t.Helper()
	x.ok(api.EvMount, 0, 0, 0)
}

// walks looks at all that is there.
func (x *course) walks() {
	x.t.Helper()
	x.tree.Walk(x.asks)
}

// makes makes a file of these bytes at a path, of which no handle is left.
func (x *course) makes(path string, data []byte) {
	x.t.Helper()
	x.oks(op(api.OpCreate, path), op(api.OpOpen, path), api.Op{Kind: api.OpWrite, H: 1, Data: data}, api.Op{Kind: api.OpClose, H: 1})
}

// grows makes a few files and directories, and keeps them.
func (x *course) grows() {
	x.t.Helper()
	x.oks(op(api.OpMkdir, "/d"), op(api.OpMkdir, "/d/e"), op(api.OpMkdir, "/z"))
	for i, path := range []string{"/f", "/d/g", "/d/e/h"} {
		x.makes(path, plain.Text(100+150*i, i))
	}
	x.syncs()
}

// comesBack does as many EvResyncs as there are Steps: then the view has both chips.
func (x *course) comesBack() {
	x.t.Helper()
	for range x.w.Steps() {
		x.ok(api.EvResync, 0, 0, 0)
	}
	if x.w.View().Members != api.Both {
		x.fatal("the chips aren't back")
	}
}

// scrubs does EvScrubs up to the end of a pass.
func (x *course) scrubs() {
	x.t.Helper()
	for {
		x.ok(api.EvScrub, 0, 0, 0)
		if x.looked == 0 {
			return
		}
	}
}

// without mounts what is there without a chip, which is in again then, and comes back.
func (x *course) without(chip int) {
	x.t.Helper()
	x.ok(api.EvOut, chip, 0, 0)
	x.mounts()
	x.walks()
	x.ok(api.EvIn, chip, 0, 0)
	x.comesBack()
}
