package store_test

import (
	"fmt"
	"math/rand"
	"slices"
	"testing"

	"keelson/api"
	"keelson/nand"
	"keelson/node"
	"keelson/store"
)

// script is a store in the course of a random script, and what it should be.
type script struct {
	t      *testing.T
	what   string
	r      *rand.Rand
	c      *nand.Chip
	s      *store.Store
	p      *plain
	others []*plain // what Open may give, too: calls that broke off, since the last one that was OK
	fails  int      // how many acts may still be told to fail
	turned map[api.Place]bool
	full   bool // whether there are about as many nodes as may be
	log    []string
}

func newScript(t *testing.T, seed int64) *script {
	t.Helper()
	r := rand.New(rand.NewSource(seed))
	x := &script{t: t, what: fmt.Sprint("seed ", seed), r: r, p: newPlain(), turned: map[api.Place]bool{}, full: seed%2 == 0, fails: int(seed) % 3}
	x.c, x.s = formatted(t, 16+r.Intn(3))
	return x
}

func (x *script) note(what ...any) { x.log = append(x.log, fmt.Sprintln(what...)) }

// fatal tells what went wrong, and all that was ahead of it.
func (x *script) fatal(what ...any) {
	x.t.Helper()
	x.t.Fatalf("%s: %sbehind %q", x.what, fmt.Sprintln(what...), x.log)
}

// body gives a body, at times a long one.
func (x *script) body() []byte {
	if x.r.Intn(8) == 0 {
		return make([]byte, x.r.Intn(225))
	}
	return fmt.Appendf(nil, "body %d", x.r.Intn(1000))
}

// key gives a key, from few ones.
func (x *script) key() int {
	if x.full {
		return x.r.Intn(x.s.Limit() + 2)
	}
	return x.r.Intn(6)
}

func (x *script) step() {
	switch n := x.r.Intn(40); {
	case n < 2 && x.fails > 0:
		x.fails--
		programs, which := x.r.Intn(2) == 0, x.r.Intn(12)
		x.c.Fail(programs, which)
		x.note("Fail", programs, which)
	case n < 3:
		x.open()
	case n < 8:
		x.flip()
	case n < 10:
		x.refresh()
	case n < 13:
		x.view()
	case n < 15:
		x.repair()
	case n < 23:
		x.stage()
	case n < 26:
		x.finish()
	default:
		x.commit()
	}
	x.check()
}

// try does a call, in which the power may end, behind which the store is another one.
func (x *script) try(what string, after *plain, call func() api.Errno) {
	x.t.Helper()
	forgets := what == "Commit"
	if x.r.Intn(4) == 0 {
		after, keep := x.r.Intn(12), keeps[x.r.Intn(len(keeps))]
		x.c.Cut(after, keep)
		x.note("Cut", after, keep)
	}
	acts := x.c.Count()
	e := call()
	x.c.On()
	x.note(what, e)
	switch {
	case e == api.OK:
		x.p, x.others = after, nil
	case e != api.ErrDown:
		x.fatal(what, "answers", e)
	default:
		if forgets && x.c.Count() != acts {
			x.p = x.p.opened()
		}
		x.others = append(x.others, after.opened())
		if x.r.Intn(3) == 0 {
			x.note("used on")
		} else {
			x.open()
		}
	}
}

// open opens the store: it is what it was, or what a call that broke off would have made it.
func (x *script) open() {
	x.t.Helper()
	x.note("Open")
	x.s = opened(x.t, x.what, x.c)
	x.p, x.others = x.found(x.s), nil
}

// found gives what a store that was opened is.
func (x *script) found(s *store.Store) *plain {
	x.t.Helper()
	p := x.p.opened()
	y := p.differs(s)
	if y == "" {
		return p
	}
	for _, p := range x.others {
		if p.differs(s) == "" {
			return p
		}
	}
	x.fatal("opened:", y)
	return nil
}

func (x *script) commit() {
	n, keys := x.r.Intn(4), map[int]bool{}
	if x.full && x.r.Intn(4) == 0 {
		n = x.s.Limit() + 4
	}
	var changes []api.Change
	after := len(x.p.nodes)
	for range n {
		key := x.key()
		_, is := x.p.nodes[key]
		switch {
		case keys[key]:
		case x.r.Intn(6) == 0 || !is && after >= x.s.Limit():
			changes = append(changes, gone(key))
			if is {
				after--
			}
		default:
			changes = append(changes, api.Change{Key: key, Body: x.body()})
			if !is {
				after++
			}
		}
		keys[key] = true
	}
	epoch := x.s.Seen() + 1 + uint64(x.r.Intn(2))
	x.note("Commit", epoch, changes)
	x.try("Commit", x.p.commit(epoch, changes...), func() api.Errno { return x.s.Commit(epoch, changes...) })
}

func (x *script) view() {
	v := api.View{Number: x.p.view.Number + uint64(x.r.Intn(4)) - 1, Members: x.r.Intn(600), Base: x.p.epoch}
	x.note("Note", v)
	x.try("Note", x.p.note(v), func() api.Errno { return x.s.Note(v) })
}

// stage stages a node of any epoch.
func (x *script) stage() {
	n := api.Node{Key: x.key(), Epoch: 1 + uint64(x.r.Intn(int(x.s.Seen())+4)), Body: x.body()}
	x.note("Stage", n)
	if n.Epoch < x.p.nodes[n.Key].Epoch {
		if e := x.s.Stage(n); e != api.ErrArg {
			x.fatal("Stage answers", e)
		}
		return
	}
	after := x.p.clone()
	after.staged[n.Key] = n
	if len(after.staged) > x.s.Limit() {
		if e := x.s.Stage(n); e != api.ErrNoSpace {
			x.fatal("Stage answers", e)
		}
		return
	}
	x.try("Stage", after, func() api.Errno { return x.s.Stage(n) })
}

// finish finishes with all that is staged, and perhaps less.
func (x *script) finish() {
	epoch := x.p.epoch + 1 + uint64(x.r.Intn(2))
	for _, n := range x.p.staged {
		epoch = max(epoch, n.Epoch)
	}
	var less []int
	all, _ := x.p.finish(epoch)
	for _, key := range all.keys() {
		if _, staged := x.p.staged[key]; !staged && (x.r.Intn(5) == 0 || len(all.nodes)-len(less) > x.s.Limit()) {
			less = append(less, key)
		}
	}
	after, c := x.p.finish(epoch, less...)
	x.note("Finish", c.Epoch, len(x.p.staged), less)
	if x.strays() {
		if e := x.s.Finish(c); e != api.ErrForm {
			x.fatal("Finish answers", e)
		}
		return
	}
	x.try("Finish", after, func() api.Errno { return x.s.Finish(c) })
}

// strays tells whether the log has a record for which Finish answers ErrForm.
func (x *script) strays() bool {
	return len(places(x.s, api.KindNode, func(body []byte) bool {
		n, e := node.Read(body)
		_, staged := x.p.staged[n.Key]
		return e == api.OK && n.Epoch > x.p.epoch && !staged
	})) > 0
}

// repair repairs a node with itself.
func (x *script) repair() {
	list := x.p.keys()
	if len(list) == 0 {
		return
	}
	n := x.p.nodes[list[x.r.Intn(len(list))]]
	after := x.p.clone()
	if x.r.Intn(3) == 0 {
		n.Body = x.body()
		after.nodes[n.Key] = n
	}
	x.note("Repair", n)
	x.try("Repair", after, func() api.Errno { return x.s.Repair(n) })
}

// refresh refreshes; then each page may have a turned bit again.
func (x *script) refresh() {
	before := x.log
	x.try("Refresh", x.p, func() api.Errno { return x.s.Refresh() })
	if last := x.log[len(x.log)-1]; len(before) < len(x.log) && last == fmt.Sprintln("Refresh", api.OK) {
		clear(x.turned)
		for _, segment := range x.s.Segments() {
			if bits, e := x.s.Mend(segment.Block); bits > 0 || e != api.OK {
				x.fatal("behind a Refresh", bits, "bits must be mended:", e)
			}
		}
	}
}

// flip turns bits, of no page more than one.
func (x *script) flip() {
	for range 1 + x.r.Intn(40) {
		at := api.Place{Block: x.r.Intn(x.c.Blocks()), Page: x.r.Intn(api.BlockPages)}
		if x.turned[at] {
			continue
		}
		x.turned[at] = true
		bit := []int{x.r.Intn(2064), x.r.Intn(200), 2063 - x.r.Intn(16)}[x.r.Intn(3)]
		x.note("Flip", at, bit)
		want(x.t, "Flip", x.c.Flip(at.Block, at.Page, bit), api.OK)
	}
}

// check tells of a store that isn't what it should be, or isn't when it is opened.
func (x *script) check() {
	x.t.Helper()
	if y := x.p.differs(x.s); y != "" {
		x.fatal(y)
	}
	x.found(opened(x.t, x.what, x.c))
	if seen := seen(x.s); x.s.Seen() != max(seen, x.p.epoch) {
		x.fatal("Seen is", x.s.Seen(), "not", seen)
	}
}

// seen gives the greatest epoch of a record in a store's log.
func seen(s *store.Store) uint64 {
	greatest := uint64(0)
	places(s, api.KindNode, func(body []byte) bool {
		n, e := node.Read(body)
		if e == api.OK {
			greatest = max(greatest, n.Epoch)
		}
		return true
	})
	places(s, api.KindCommit, func(body []byte) bool {
		c, e := node.ReadCommit(body)
		if e == api.OK {
			greatest = max(greatest, c.Epoch)
		}
		return true
	})
	return greatest
}

// P11.2 to P11.7, in any order, with cuts, failures and turned bits; a store is opened behind a cut, or used on.
func TestScripts(t *testing.T) {
	t.Parallel()
	for seed := range int64(120) {
		x := newScript(t, seed)
		for range 150 {
			x.step()
		}
	}
}

// P2: two runs of the same calls give the same answers, and do the same acts.
func TestTwoRuns(t *testing.T) {
	t.Parallel()
	for seed := range int64(8) {
		one, two := newScript(t, seed), newScript(t, seed)
		for range 150 {
			one.step()
			two.step()
		}
		if !slices.Equal(one.log, two.log) || one.c.Count() != two.c.Count() {
			t.Errorf("seed %d: two runs differ", seed)
		}
		for block := range one.c.Blocks() {
			for page := range api.BlockPages {
				p, _ := one.c.Read(block, page)
				q, _ := two.c.Read(block, page)
				if p != q {
					t.Errorf("seed %d: the chip's page %d, %d differs", seed, block, page)
				}
			}
		}
	}
}
