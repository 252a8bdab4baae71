package scrub_test

import (
	"fmt"
	"maps"
	"testing"

	"keelson/api"
	"keelson/frame"
	"keelson/mirror"
	"keelson/nand"
	"keelson/node"
	"keelson/scrub"
	"keelson/store"
	"keelson/view"
)

// pass is how many Steps a pass has.
const pass = 257

// change gives the change by which a node has a body.
func change(key int, body string) api.Change { return api.Change{Key: key, Body: []byte(body)} }

// gone gives the change by which a node is gone.
func gone(key int) api.Change { return api.Change{Key: key, Gone: true} }

// nodes are nodes' bodies by their keys; of one that can't be read the error.
type nodes map[int]string

// with gives the nodes behind changes.
func (n nodes) with(changes ...api.Change) nodes {
	n = maps.Clone(n)
	for _, c := range changes {
		delete(n, c.Key)
		if !c.Gone {
			n[c.Key] = string(c.Body)
		}
	}
	return n
}

// in tells whether the nodes are among some.
func (n nodes) in(list []nodes) bool {
	for _, one := range list {
		if maps.Equal(n, one) {
			return true
		}
	}
	return false
}

// all gives all nodes by a call that gives one.
func all(one func(key int) ([]byte, api.Errno)) nodes {
	list := nodes{}
	for key := range api.Keys {
		switch body, e := one(key); e {
		case api.OK:
			list[key] = string(body)
		case api.ErrNone:
		default:
			list[key] = e.Error()
		}
	}
	return list
}

// ofStore gives all nodes of a store.
func ofStore(s *store.Store) nodes {
	return all(func(key int) ([]byte, api.Errno) {
		n, _, e := s.Node(key)
		return n.Body, e
	})
}

// scene is two chips with one power, a tie, the mirror over them, and a Scrub of that.
type scene struct {
	*mirror.Mirror
	s     *scrub.Scrub
	t     *testing.T
	what  string
	p     *nand.Power
	tie   *view.Tie
	chips [2]*nand.Chip
}

// made gives two chips of so many blocks with a mirror over them.
func made(t *testing.T, what string, blocks int, bad ...[]int) *scene {
	t.Helper()
	x := &scene{t: t, what: what, p: nand.NewPower(), tie: view.NewTie()}
	bad = append(bad, nil, nil)
	for chip := range x.chips {
		x.chips[chip] = x.blank(blocks, bad[chip]...)
	}
	m, e := mirror.Make(x.tie, x.chips[0], x.chips[1])
	x.want("Make", e, api.OK)
	x.over(m)
	return x
}

// blank gives a blank chip with the scene's power.
func (x *scene) blank(blocks int, bad ...int) *nand.Chip {
	x.t.Helper()
	c, e := nand.New(x.p, blocks, bad...)
	x.want("nand.New", e, api.OK)
	return c
}

// over lets a mirror be the scene's, with a Scrub anew.
func (x *scene) over(m *mirror.Mirror) { x.Mirror, x.s = m, scrub.New(m) }

// want tells of an error that isn't the one wanted.
func (x *scene) want(what string, got, e api.Errno) {
	x.t.Helper()
	if got != e {
		x.t.Fatalf("%s: %s: %v, not %v", x.what, what, got, e)
	}
}

// commits Commits, which must be OK.
func (x *scene) commits(changes ...api.Change) {
	x.t.Helper()
	x.want("Commit", x.Commit(changes...), api.OK)
}

// acts gives how many acts there were.
func (x *scene) acts() int { return x.chips[0].Count() + x.chips[1].Count() }

// store gives a chip's store, which must be up.
func (x *scene) store(chip int) *store.Store {
	x.t.Helper()
	s, ok := x.Store(chip)
	if s == nil || !ok {
		x.t.Fatalf("%s: the chip %d isn't up", x.what, chip)
	}
	return s
}

// passes does a pass, all of whose Steps must be OK.
func (x *scene) passes() {
	x.t.Helper()
	for n := 1; n <= pass; n++ {
		done, e := x.s.Step()
		x.want(fmt.Sprint("the Step ", n), e, api.OK)
		if done != (n == pass) {
			x.t.Fatalf("%s: the Step %d of a pass: %v", x.what, n, done)
		}
	}
}

// anew Opens the mirror, with a Scrub anew.
func (x *scene) anew() {
	x.t.Helper()
	m, e := mirror.Open(x.tie, x.chips[0], x.chips[1])
	x.want("Open", e, api.OK)
	x.over(m)
}

// off lets the power end, with no act of the two chips.
func (x *scene) off() {
	c := x.blank(16)
	x.p.Cut(0, 0)
	c.Erase(0)
}

// fences lets a chip be fenced out, by a Commit without it.
func (x *scene) fences(chip int, changes ...api.Change) {
	x.t.Helper()
	x.chips[chip].Put(false)
	x.commits(changes...)
	x.chips[chip].Put(true)
}

// is tells of a mirror that has other nodes than these.
func (x *scene) is(what string, want nodes) {
	x.t.Helper()
	if got := all(x.Node); !maps.Equal(got, want) {
		x.t.Fatalf("%s: %s: %v, not %v", x.what, what, got, want)
	}
}

// both tells of a member that can't read other nodes than these, or holds others when it is opened alone.
func (x *scene) both(want nodes) {
	x.t.Helper()
	for chip, c := range x.chips {
		if got := ofStore(x.store(chip)); !maps.Equal(got, want) {
			x.t.Fatalf("%s: the chip %d has %v, not %v", x.what, chip, got, want)
		}
		s, e := store.Open(c)
		x.want("store.Open", e, api.OK)
		if got := ofStore(s); !maps.Equal(got, want) || !s.Sound() || s.Last() != x.store(chip).Last() {
			x.t.Fatalf("%s: the chip %d, opened, has %v, not %v; it is Sound: %v", x.what, chip, got, want, s.Sound())
		}
	}
}

// place is a page of a chip.
type place struct {
	c           *nand.Chip
	block, page int
}

// flip turns bits of a page.
func (x *scene) flip(at place, bits ...int) {
	x.t.Helper()
	for _, bit := range bits {
		x.want("Flip", at.c.Flip(at.block, at.page, bit), api.OK)
	}
}

// pages gives the pages of a chip of which a function says yes.
func (x *scene) pages(chip int, is func(p api.Page) bool) []place {
	x.t.Helper()
	var list []place
	c := x.chips[chip]
	for block := range c.Blocks() {
		for page := range api.BlockPages {
			p, e := c.Read(block, page)
			x.want("Read", e, api.OK)
			if is(p) {
				list = append(list, place{c, block, page})
			}
		}
	}
	return list
}

// ofNode tells of a page whether a node of a key stands there, of any epoch.
func ofNode(key int) func(p api.Page) bool {
	return func(p api.Page) bool {
		kind, body, _, e := frame.Read(p)
		n, f := node.Read(body)
		return e == api.OK && f == api.OK && kind == api.KindNode && n.Key == key
	}
}

// spoil turns bits of each page of a chip in which a node of a key stands.
func (x *scene) spoil(chip, key int, bits ...int) {
	x.t.Helper()
	list := x.pages(chip, ofNode(key))
	if len(list) == 0 {
		x.t.Fatalf("%s: the chip %d has no node %d", x.what, chip, key)
	}
	for _, at := range list {
		x.flip(at, bits...)
	}
}

// two are bits by which a page can't be read.
var two = []int{20, 77}
