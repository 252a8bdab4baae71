package scrub_test

import (
	"fmt"
	"testing"

	"keelson/api"
	"keelson/frame"
	"keelson/scrub"
)

// noSpares are blocks by which a chip has no spare.
var noSpares = []int{4, 6, 9, 13}

// few lets there be some nodes.
func few(x *scene) {
	x.t.Helper()
	x.commits(change(0, "first"), change(5, "a"), change(6, "gone"), change(255, "last"))
	x.commits(gone(6), change(7, "b"))
}

// fews are those nodes.
var fews = nodes{0: "first", 5: "a", 7: "b", 255: "last"}

// steps does a Step, which must answer that, by which so many nodes are written anew.
func (x *scene) steps(what string, done bool, e api.Errno, mended int) {
	x.t.Helper()
	before := x.s.Mended()
	got, f := x.s.Step()
	if n := x.s.Mended() - before; got != done || f != e || n != mended {
		x.t.Fatalf("%s: %s: %v, %v, %d mended, not %v, %v, %d", x.what, what, got, f, n, done, e, mended)
	}
}

// upTo does the Steps ahead of a key, from another one on, by which nothing is done.
func (x *scene) upTo(from, key int) {
	x.t.Helper()
	acts := x.acts()
	for n := from; n < key; n++ {
		x.steps(fmt.Sprint("the key ", n), false, api.OK, 0)
	}
	if x.acts() != acts {
		x.t.Fatalf("%s: an act ahead of the key %d", x.what, key)
	}
}

// reads tells of a chip's node that can't be read without a mended bit.
func (x *scene) reads(chip, key int, body string) {
	x.t.Helper()
	if n, mended, e := x.store(chip).Node(key); string(n.Body) != body || mended != 0 || e != api.OK {
		x.t.Fatalf("%s: the chip %d: the node %d: %q, %d mended, %v", x.what, chip, key, n.Body, mended, e)
	}
}

// P16.1: New does nothing; each Scrub is ahead of the key 0, by itself, and has the mirror's methods.
func TestNew(t *testing.T) {
	x := made(t, "New", 16)
	few(x)
	x.spoil(0, 5, 9)
	acts := x.acts()
	one, two := scrub.New(x.Mirror), scrub.New(x.Mirror)
	if x.acts() != acts || one == two || one.Mended() != 0 || one.Epoch() != x.Epoch() {
		t.Error("New has done something")
	}
	x.s = one
	x.upTo(0, 5)
	x.steps("the key 5", false, api.OK, 1)
	x.spoil(0, 5, 9)
	x.s = two
	x.upTo(0, 5)
	x.steps("the key 5", false, api.OK, 1)
	if one.Mended() != 1 || two.Mended() != 1 {
		t.Errorf("Mended: %d, %d", one.Mended(), two.Mended())
	}
}

// P16.1: where nothing is to be mended a pass is 257 Steps, in which nothing is done; then another one begins.
func TestPass(t *testing.T) {
	for name, set := range map[string]func(x *scene){
		"no nodes":   func(x *scene) {},
		"some nodes": few,
		"one chip":   func(x *scene) { few(x); x.fences(0) },
		"opened":     func(x *scene) { few(x); x.anew() },
	} {
		x := made(t, name, 16)
		set(x)
		acts := x.acts()
		for range 3 {
			x.passes()
		}
		if x.acts() != acts || x.s.Mended() != 0 {
			t.Errorf("%s: %d acts, %d mended", name, x.acts()-acts, x.s.Mended())
		}
	}
}

// P16.1: no power, then no lead; it stays where it is then.
func TestDownAndDead(t *testing.T) {
	x := made(t, "errors", 16)
	few(x)
	x.spoil(0, 0, 9)
	x.spoil(1, 255, 9)
	refused := func() {
		t.Helper()
		x.off()
		x.steps("no power", false, api.ErrDown, 0)
		x.chips[0].Put(false)
		x.chips[1].Put(false)
		x.steps("no power, no chips", false, api.ErrDown, 0)
		x.p.On()
		x.steps("no chips", false, api.ErrDead, 0)
		x.chips[0].Put(true)
		x.chips[1].Put(true)
	}
	refused()
	x.steps("the key 0", false, api.OK, 1)
	refused()
	x.upTo(1, 255)
	refused()
	x.steps("the key 255", false, api.OK, 1)
	refused()
	x.steps("the end", true, api.OK, 0)
	x.both(fews)
}

// P16.1: a node of which a bit was mended is written anew on that chip, with itself.
func TestMended(t *testing.T) {
	for chip := range 2 {
		for _, key := range []int{0, 5, 7, 255} {
			for _, bit := range []int{0, 77, 2047, 2050, 2063} {
				x := made(t, fmt.Sprintf("the chip %d, the key %d, the bit %d", chip, key, bit), 16)
				few(x)
				x.spoil(chip, key, bit)
				x.upTo(0, key)
				acts, others := x.chips[chip].Count(), x.chips[1-chip].Count()
				x.steps("it", false, api.OK, 1)
				if x.chips[chip].Count() == acts || x.chips[1-chip].Count() != others {
					t.Errorf("%s: an act of the other chip, or none", x.what)
				}
				x.reads(chip, key, fews[key])
				x.is("mended", fews)
			}
		}
	}
}

// P16.1: one that is corrupt is written anew with that of the other member, also where that must be mended; where nothing seems to stand any more, too.
func TestCorrupt(t *testing.T) {
	for chip := range 2 {
		x := made(t, fmt.Sprint("the chip ", chip), 16)
		few(x)
		x.spoil(chip, 5, two...)
		x.spoil(chip, 7, two...)
		x.spoil(1-chip, 7, 30)
		for _, at := range x.pages(chip, ofNode(255)) {
			x.fade(at)
		}
		x.is("ahead", fews)
		x.upTo(0, 5)
		x.steps("corrupt", false, api.OK, 1)
		x.reads(chip, 5, "a")
		x.upTo(6, 7)
		x.steps("corrupt, and to be mended on the other one", false, api.OK, 2)
		x.reads(0, 7, "b")
		x.reads(1, 7, "b")
		x.upTo(8, 255)
		x.steps("faded", false, api.OK, 1)
		x.reads(chip, 255, "last")
		x.steps("the end", true, api.OK, 0)
		if x.s.Mended() != 4 {
			t.Errorf("%s: %d mended", x.what, x.s.Mended())
		}
		x.both(fews)
	}
}

// fade turns all bits of a page that are 0, so that nothing seems to stand there.
func (x *scene) fade(at place) {
	x.t.Helper()
	p, e := at.c.Read(at.block, at.page)
	x.want("Read", e, api.OK)
	for bit := range 8 * len(p) {
		if p[bit/8]>>(bit%8)&1 == 0 {
			x.flip(at, bit)
		}
	}
	if p, _ := at.c.Read(at.block, at.page); !frame.Blank(p) {
		x.t.Fatalf("%s: it isn't blank", x.what)
	}
}

// P16.1: ErrCorrupt, if no member that is up can read it; the pass goes on.
func TestCorruptOnAll(t *testing.T) {
	x := made(t, "both", 16)
	few(x)
	x.spoil(0, 5, two...)
	x.spoil(1, 5, two...)
	x.spoil(1, 7, 9)
	for range 3 {
		x.upTo(0, 5)
		x.steps("the key 5", false, api.ErrCorrupt, 0)
		x.upTo(6, 7)
		x.s.Step()
		x.upTo(8, 256)
		x.steps("the end", true, api.OK, 0)
	}
	x.reads(1, 7, "b")
	if _, e := x.Node(5); e != api.ErrCorrupt || x.s.Mended() != 1 {
		t.Errorf("%v, %d mended", e, x.s.Mended())
	}
	// Once it is another one it is as any other.
	x.commits(change(5, "new"))
	x.passes()
	x.both(fews.with(change(5, "new")))

	x = made(t, "one alone", 16)
	few(x)
	x.fences(0)
	x.spoil(1, 5, two...)
	x.upTo(0, 5)
	x.steps("the key 5", false, api.ErrCorrupt, 0)
	x.upTo(6, 256)
	x.steps("the end", true, api.OK, 0)
}

// P16.1: a chip that is no member, or isn't up, isn't looked at.
func TestMembersAlone(t *testing.T) {
	for chip := range 2 {
		for name, set := range map[string]func(x *scene){
			"no member": func(x *scene) { x.fences(chip) },
			"not up":    func(x *scene) { x.Replace(chip, x.chips[chip]) },
			"out":       func(x *scene) { x.chips[chip].Put(false) },
		} {
			x := made(t, fmt.Sprint("the chip ", chip, " is ", name), 16)
			few(x)
			x.spoil(chip, 5, 9)
			x.spoil(1-chip, 5, 9)
			set(x)
			acts := x.chips[chip].Count()
			x.upTo(0, 5)
			x.steps("the key 5", false, api.OK, 1)
			x.reads(1-chip, 5, "a")
			x.spoil(1-chip, 7, two...)
			x.upTo(6, 7)
			x.steps("the key 7", false, api.ErrCorrupt, 0)
			x.upTo(8, 256)
			x.steps("the end", true, api.OK, 0)
			if x.chips[chip].Count() != acts {
				t.Errorf("%s: an act of it", x.what)
			}
		}
	}
}

// P16.1: the first error of a Repair is told, and the others are done; behind it the next key comes.
func TestRepairFails(t *testing.T) {
	for chip := range 2 {
		bad := [2][]int{}
		bad[chip] = noSpares
		x := made(t, fmt.Sprint("the chip ", chip, " is worn"), 16, bad[:]...)
		few(x)
		for other := range 2 {
			x.spoil(other, 5, 9)
			x.spoil(other, 7, 9)
		}
		x.upTo(0, 5)
		x.chips[chip].Fail(true, 0)
		x.steps("the key 5", false, api.ErrWorn, 1)
		x.reads(1-chip, 5, "a")
		x.upTo(6, 7)
		x.steps("the key 7", false, api.OK, 2)
		x.is("behind it", fews)
	}
	x := made(t, "the power goes", 16)
	few(x)
	x.spoil(0, 5, 9)
	x.spoil(1, 5, 9)
	x.upTo(0, 5)
	x.p.Cut(1, 0)
	x.steps("in the second one", false, api.ErrDown, 1)
	x.p.On()
	x.upTo(6, 256)
	x.steps("the end", true, api.OK, 0)
	x.both(fews)

	x = made(t, "the chip 0 is worn, and the power goes", 16, noSpares)
	few(x)
	x.spoil(0, 5, 9)
	x.spoil(1, 5, 9)
	x.upTo(0, 5)
	x.chips[0].Fail(true, 0)
	x.p.Cut(1, 0)
	x.steps("the first error", false, api.ErrWorn, 0)

	x = made(t, "of another epoch", 16)
	few(x)
	// A Commit broke off between the chips, and the mirror is used on.
	s := x.store(0)
	x.want("Commit", s.Commit(s.Seen()+1, change(5, "new")), api.OK)
	x.spoil(1, 5, two...)
	x.upTo(0, 5)
	x.steps("the key 5", false, api.ErrArg, 0)
}

// P16.1: behind the key 255 each member Refreshes.
func TestRefreshes(t *testing.T) {
	x := made(t, "Refresh", 16)
	few(x)
	for chip, c := range x.chips {
		for _, at := range x.pages(chip, func(p api.Page) bool { _, _, _, e := frame.Read(p); return e == api.OK && !isNode(p) }) {
			x.flip(at, 9)
		}
		if n := x.turned(chip); n == 0 {
			t.Fatalf("no bit has turned on the chip %d of %d blocks", chip, c.Blocks())
		}
	}
	x.upTo(0, 256)
	x.steps("the end", true, api.OK, 0)
	for chip := range x.chips {
		if n := x.turned(chip); n != 0 {
			t.Errorf("%d bits must be mended on the chip %d", n, chip)
		}
	}
	x.both(fews)
}

// isNode tells whether a node stands on a page.
func isNode(p api.Page) bool {
	kind, _, _, e := frame.Read(p)
	return e == api.OK && kind == api.KindNode
}

// turned gives how many bits of a chip's records, and its table, must be mended, as far as they are in use.
func (x *scene) turned(chip int) int {
	x.t.Helper()
	s, bits := x.store(chip), 0
	for _, segment := range s.Segments() {
		n, e := s.Mend(segment.Block)
		x.want("Mend", e, api.OK)
		bits += n
	}
	for _, at := range x.pages(chip, func(p api.Page) bool { kind, _, _, e := frame.Read(p); return e == api.OK && kind == api.KindTable }) {
		p, _ := at.c.Read(at.block, at.page)
		_, _, n, _ := frame.Read(p)
		bits += n
	}
	return bits
}

// P16.1: the first error of a Refresh is told, beside true, and the others are done; then the key 0 comes again.
func TestRefreshFails(t *testing.T) {
	for chip := range 2 {
		bad := [2][]int{}
		bad[chip] = noSpares
		x := made(t, fmt.Sprint("the chip ", chip, " is worn"), 16, bad[:]...)
		few(x)
		for other := range 2 {
			for _, at := range x.pages(other, isCommit) {
				x.flip(at, 9)
			}
		}
		x.upTo(0, 256)
		x.chips[chip].Fail(true, 0)
		x.steps("the end", true, api.ErrWorn, 0)
		if x.turned(1-chip) != 0 || x.turned(chip) == 0 {
			t.Errorf("%s: %d and %d bits must be mended", x.what, x.turned(0), x.turned(1))
		}
		x.passes()
		if x.turned(chip) != 0 {
			t.Errorf("%s: %d bits must be mended", x.what, x.turned(chip))
		}
		x.both(fews)
	}
	x := made(t, "the chip 0 is worn, and the power goes", 16, noSpares)
	few(x)
	for chip := range x.chips {
		for _, at := range x.pages(chip, isCommit) {
			x.flip(at, 9)
		}
	}
	x.upTo(0, 256)
	x.chips[0].Fail(true, 0)
	x.p.Cut(1, 0)
	x.steps("the first error", true, api.ErrWorn, 0)

	x = made(t, "the power goes", 16)
	few(x)
	for _, at := range x.pages(1, isCommit) {
		x.flip(at, 9)
	}
	x.upTo(0, 256)
	x.p.Cut(0, 0)
	x.steps("the end", true, api.ErrDown, 0)
	x.p.On()
	x.passes()
	x.both(fews)
}

// isCommit tells whether a commit stands on a page.
func isCommit(p api.Page) bool {
	kind, _, _, e := frame.Read(p)
	return e == api.OK && kind == api.KindCommit
}

// P16.2: Mended counts the nodes that were written anew, in all Steps.
func TestMendedCounts(t *testing.T) {
	x := made(t, "Mended", 16)
	few(x)
	for i := range 4 {
		for chip := range 2 {
			for key := range fews {
				if key != 7 || i == 3 {
					x.spoil(chip, key, 100*i)
				}
			}
		}
		x.passes()
		if want := []int{6, 12, 18, 26}[i]; x.s.Mended() != want {
			t.Errorf("the pass %d: %d, not %d", i, x.s.Mended(), want)
		}
	}
	x.both(fews)
}

// The chapter's example.
func TestExample(t *testing.T) {
	x := made(t, "the example", 16)
	few(x)
	x.spoil(0, 5, two...)
	if body, e := x.Node(5); string(body) != "a" || e != api.OK {
		t.Errorf("%q, %v", body, e)
	}
	if _, _, e := x.store(0).Node(5); e != api.ErrCorrupt {
		t.Error(e)
	}
	x.passes()
	x.reads(0, 5, "a")
	if x.s.Mended() != 1 {
		t.Errorf("%d mended", x.s.Mended())
	}
}
