package mirror_test

import (
	"bytes"
	"fmt"
	"maps"
	"math"
	"testing"

	"keelson/api"
	"keelson/bbt"
	"keelson/mirror"
	"keelson/nand"
	"keelson/node"
	"keelson/store"
	"keelson/view"
)

// odd are numbers that no chip has.
func odd() []int {
	return []int{2, 3, -1, -2, 63, 64, 256, math.MaxInt32, math.MinInt32, math.MaxInt, math.MinInt}
}

// oddKeys are numbers that no node has as its key.
func oddKeys() []int {
	return []int{-1, 256, 257, 512, -256, math.MaxInt32, math.MinInt32, math.MaxInt, math.MinInt}
}

// keeps are amounts of an act that may be kept: pages of an erase, bytes of a program.
var keeps = []int{-1, 0, 1, 3, 8, 100, 129, 256, 257, 258}

// fewKeeps are those of them that matter most.
var fewKeeps = []int{0, 2, 130, 257, 258}

// change gives the change by which a node has a body.
func change(key int, body string) api.Change { return api.Change{Key: key, Body: []byte(body)} }

// gone gives the change by which a node is gone.
func gone(key int) api.Change { return api.Change{Key: key, Gone: true} }

// filled gives changes of the nodes 0 to n - 1, with bodies of their own.
func filled(n int, body string) []api.Change {
	var list []api.Change
	for key := range n {
		list = append(list, change(key, fmt.Sprint(body, " of ", key)))
	}
	return list
}

// want tells of an error that isn't the one wanted.
func want(t *testing.T, what string, got, e api.Errno) {
	t.Helper()
	if got != e {
		t.Errorf("%s: %v, not %v", what, got, e)
	}
}

// nodes are nodes' bodies by their keys.
type nodes map[int]string

// with gives the nodes behind changes.
func (n nodes) with(changes ...api.Change) nodes {
	n = maps.Clone(n)
	for _, c := range changes {
		if c.Gone {
			delete(n, c.Key)
		} else {
			n[c.Key] = string(c.Body)
		}
	}
	return n
}

// in tells whether the nodes are among some.
func (n nodes) in(list []nodes) bool {
	for _, x := range list {
		if maps.Equal(n, x) {
			return true
		}
	}
	return false
}

// source is a mirror, or a store, as where nodes are read.
type source interface {
	Live() api.Live
}

// read gives all nodes by a call that gives one; those that can't be read are told.
func read(t *testing.T, what string, s source, one func(key int) ([]byte, api.Errno)) nodes {
	t.Helper()
	all := nodes{}
	for key := range 256 {
		body, e := one(key)
		switch {
		case e == api.OK && node.Has(s.Live(), key):
			all[key] = string(body)
		case e != api.ErrNone || node.Has(s.Live(), key) || body != nil:
			t.Errorf("%s: Node(%d): %q, %v; it is live: %v", what, key, body, e, node.Has(s.Live(), key))
		}
	}
	return all
}

// ofMirror gives all nodes of a mirror.
func ofMirror(t *testing.T, what string, m *mirror.Mirror) nodes {
	t.Helper()
	return read(t, what, m, m.Node)
}

// ofChip gives all nodes that a chip holds.
func ofChip(t *testing.T, what string, c *nand.Chip) nodes {
	t.Helper()
	s := opens(t, what, c)
	if !s.Sound() {
		t.Errorf("%s: the store isn't Sound", what)
	}
	return read(t, what, s, func(key int) ([]byte, api.Errno) {
		n, _, e := s.Node(key)
		return n.Body, e
	})
}

// opens gives the store that a chip holds, as another one than any mirror's.
func opens(t *testing.T, what string, c *nand.Chip) *store.Store {
	t.Helper()
	s, e := store.Open(c)
	if s == nil || e != api.OK {
		t.Fatalf("%s: store.Open: %v", what, e)
	}
	return s
}

// scene is two chips with one power, a tie, and the mirror over them.
type scene struct {
	t     *testing.T
	what  string
	p     *nand.Power
	tie   *view.Tie
	chips [2]*nand.Chip
	m     *mirror.Mirror
}

// noSpares are blocks by which a chip has no spare.
var noSpares = []int{4, 6, 9, 13}

// blank gives two blank chips of so many blocks, without a mirror.
func blank(t *testing.T, what string, a, b int, bad ...[]int) *scene {
	t.Helper()
	x := &scene{t: t, what: what, p: nand.NewPower(), tie: view.NewTie()}
	bad = append(bad, nil, nil)
	for i, blocks := range []int{a, b} {
		c, e := nand.New(x.p, blocks, bad[i]...)
		want(t, what, e, api.OK)
		x.chips[i] = c
	}
	return x
}

// made gives two chips of 16 blocks with a mirror over them.
func made(t *testing.T, what string, bad ...[]int) *scene {
	t.Helper()
	x := blank(t, what, 16, 16, bad...)
	x.make()
	return x
}

// make Makes the mirror.
func (x *scene) make() {
	x.t.Helper()
	m, e := mirror.Make(x.tie, x.chips[0], x.chips[1])
	if m == nil || e != api.OK {
		x.t.Fatalf("%s: Make: %v", x.what, e)
	}
	x.m = m
}

// open Opens the mirror.
func (x *scene) open() {
	x.t.Helper()
	m, e := mirror.Open(x.tie, x.chips[0], x.chips[1])
	if m == nil || e != api.OK {
		x.t.Fatalf("%s: Open: %v", x.what, e)
	}
	x.m = m
}

// refuses tells if Open doesn't answer an error, or an act is done.
func (x *scene) refuses(what string, e api.Errno) {
	x.t.Helper()
	acts, v := x.acts(), x.tie.Get()
	m, got := mirror.Open(x.tie, x.chips[0], x.chips[1])
	want(x.t, x.what+": "+what, got, e)
	if m != nil || x.acts() != acts || x.tie.Get() != v {
		x.t.Errorf("%s: %s: a mirror is given, or something was written", x.what, what)
	}
}

// acts gives how many acts there were.
func (x *scene) acts() int { return x.chips[0].Count() + x.chips[1].Count() }

// off lets the power end, with no act of the two chips.
func (x *scene) off() {
	c, _ := nand.New(x.p, 16)
	x.p.Cut(0, 0)
	c.Erase(0)
}

// commits Commits, which must be OK.
func (x *scene) commits(changes ...api.Change) {
	x.t.Helper()
	if e := x.m.Commit(changes...); e != api.OK {
		x.t.Fatalf("%s: Commit: %v", x.what, e)
	}
}

// store gives a chip's store, which must be up.
func (x *scene) store(chip int) *store.Store {
	x.t.Helper()
	s, ok := x.m.Store(chip)
	if s == nil || !ok {
		x.t.Fatalf("%s: the chip %d isn't up", x.what, chip)
	}
	return s
}

// fences lets a chip be fenced out, by a Commit without it.
func (x *scene) fences(chip int, changes ...api.Change) {
	x.t.Helper()
	x.chips[chip].Put(false)
	x.commits(changes...)
	x.chips[chip].Put(true)
}

// copies lets a chip that isn't a member hold what the lead holds.
func (x *scene) copies(chip int) {
	x.t.Helper()
	lead, _ := x.m.Lead()
	from, to := x.store(lead), x.store(chip)
	for _, key := range node.Keys(from.Live()) {
		n, _, e := from.Node(key)
		want(x.t, x.what, e, api.OK)
		if to.Holds(key, n.Epoch) {
			continue
		}
		if e := to.Stage(n); e != api.OK {
			x.t.Fatalf("%s: Stage: %v", x.what, e)
		}
	}
	if to.Last() != from.Last() {
		want(x.t, x.what+": Finish", to.Finish(from.Last()), api.OK)
	}
}

// joins lets a chip that was fenced out be a member again.
func (x *scene) joins(chip int) {
	x.t.Helper()
	want(x.t, x.what+": Renew", x.m.Renew(chip), api.OK)
	x.copies(chip)
	want(x.t, x.what+": Join", x.m.Join(chip), api.OK)
}

// is tells of a mirror that has other nodes, or another epoch, or whose members, of which all that live must be up, hold others.
func (x *scene) is(epoch uint64, all nodes) {
	x.t.Helper()
	if got := ofMirror(x.t, x.what, x.m); !maps.Equal(got, all) || x.m.Epoch() != epoch {
		x.t.Errorf("%s: %v of the epoch %d, not %v of %d", x.what, got, x.m.Epoch(), all, epoch)
	}
	for chip, c := range x.chips {
		if !x.m.Member(chip) || !c.Live() {
			continue
		}
		what := fmt.Sprint(x.what, ", on the chip ", chip)
		if got := ofChip(x.t, what, c); !x.m.Up(chip) || !maps.Equal(got, all) || opens(x.t, what, c).Epoch() != epoch {
			x.t.Errorf("%s: up: %v; %v, not %v of the epoch %d", what, x.m.Up(chip), got, all, epoch)
		}
	}
}

// views tells of a tie that knows another view.
func (x *scene) views(number uint64, members int, base uint64) {
	x.t.Helper()
	v := api.View{Number: number, Members: members, Base: base}
	if x.tie.Get() != v || x.m != nil && x.m.View() != v {
		x.t.Errorf("%s: the view is %v, not %v", x.what, x.tie.Get(), v)
	}
}

// noted tells of a chip that has another view than the tie's.
func (x *scene) noted(chip int) {
	x.t.Helper()
	if v, ok := opens(x.t, x.what, x.chips[chip]).View(); v != x.tie.Get() || !ok {
		x.t.Errorf("%s: the chip %d has the view %v, not %v", x.what, chip, v, x.tie.Get())
	}
}

// spoil turns two bits of each record of a node of an epoch on a chip.
func (x *scene) spoil(chip, key int, epoch uint64) {
	x.t.Helper()
	for _, at := range x.records(chip, key, epoch) {
		for _, bit := range []int{20, 77} {
			want(x.t, x.what, x.chips[chip].Flip(at.Block, at.Page, bit), api.OK)
		}
	}
}

// fade turns all bits of each record of a node of an epoch on a chip that are 0, so that nothing seems to stand there.
func (x *scene) fade(chip, key int, epoch uint64) {
	x.t.Helper()
	for _, at := range x.records(chip, key, epoch) {
		p, e := x.chips[chip].Read(at.Block, at.Page)
		want(x.t, x.what, e, api.OK)
		for bit := range 8 * len(p) {
			if p[bit/8]>>(bit%8)&1 == 0 {
				x.chips[chip].Flip(at.Block, at.Page, bit)
			}
		}
	}
}

// records gives the chip's pages in which a node of an epoch stands.
func (x *scene) records(chip, key int, epoch uint64) []api.Place {
	x.t.Helper()
	table, e := bbt.Open(x.chips[chip])
	want(x.t, x.what, e, api.OK)
	s := opens(x.t, x.what, x.chips[chip])
	var list []api.Place
	for _, segment := range s.Segments() {
		for _, at := range segment.Records {
			kind, body, _, _ := s.Get(at)
			n, e := node.Read(body)
			if e == api.OK && kind == api.KindNode && n.Key == key && n.Epoch == epoch {
				block, _ := table.At(at.Block)
				list = append(list, api.Place{Block: block, Page: at.Page})
			}
		}
	}
	if len(list) == 0 {
		x.t.Errorf("%s: the chip %d has no node %d of the epoch %d", x.what, chip, key, epoch)
	}
	return list
}

// image is all that stands on a chip.
func image(c *nand.Chip) []byte {
	var all bytes.Buffer
	for block := range c.Blocks() {
		for page := range api.BlockPages {
			p, e := c.Read(block, page)
			fmt.Fprint(&all, e)
			all.Write(p[:])
		}
	}
	return all.Bytes()
}
