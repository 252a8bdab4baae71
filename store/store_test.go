package store_test

import (
	"bytes"
	"encoding/binary"
	"fmt"
	"hash/crc32"
	"maps"
	"math"
	"slices"
	"testing"

	"keelson/api"
	"keelson/bbt"
	"keelson/nand"
	"keelson/node"
	"keelson/store"
)

// odd are numbers that no node has as its key.
var odd = []int{math.MinInt, math.MinInt32, -256, -1, 256, 257, 511, math.MaxInt32, math.MaxInt}

// change gives the change by which a node has a body.
func change(key int, body string) api.Change { return api.Change{Key: key, Body: []byte(body)} }

// gone gives the change by which a node is gone.
func gone(key int) api.Change { return api.Change{Key: key, Gone: true} }

// want tells of an error that isn't the one wanted.
func want(t *testing.T, what string, got, e api.Errno) {
	t.Helper()
	if got != e {
		t.Errorf("%s: %v, not %v", what, got, e)
	}
}

// formatted gives a blank chip with power of its own, and the store that it was made.
func formatted(t *testing.T, blocks int, bad ...int) (*nand.Chip, *store.Store) {
	t.Helper()
	c, _ := nand.New(nand.NewPower(), blocks, bad...)
	s, e := store.Format(c)
	if s == nil || e != api.OK {
		t.Fatalf("Format: %v", e)
	}
	return c, s
}

// opened gives the store that a chip holds.
func opened(t *testing.T, what string, c *nand.Chip) *store.Store {
	t.Helper()
	before := c.Count()
	s, e := store.Open(c)
	if s == nil || e != api.OK {
		t.Fatalf("%s: Open: %v", what, e)
	}
	if c.Count() != before {
		t.Errorf("%s: Open did an act", what)
	}
	return s
}

// flip turns bits of the page at a place of a chip's log.
func flip(t *testing.T, c *nand.Chip, at api.Place, bits ...int) {
	t.Helper()
	x, e := bbt.Open(c)
	block, ok := x.At(at.Block)
	if !ok || e != api.OK {
		t.Fatalf("no block %d: %v", at.Block, e)
	}
	for _, bit := range bits {
		want(t, "Flip", c.Flip(block, at.Page, bit), api.OK)
	}
}

// powerOff lets a chip's power end, with no act of the chip.
func powerOff(c *nand.Chip) {
	other, _ := nand.New(c.Power, 16)
	c.Cut(0, 0)
	other.Erase(0)
}

// places gives where records of a kind stand that are as they should be.
func places(s *store.Store, kind byte, is func(body []byte) bool) []api.Place {
	var list []api.Place
	for _, segment := range s.Segments() {
		for _, at := range segment.Records {
			if k, body, _, e := s.Get(at); e == api.OK && k == kind && is(body) {
				list = append(list, at)
			}
		}
	}
	return list
}

// nodesAt gives where a node's records of an epoch stand.
func nodesAt(s *store.Store, key int, epoch uint64) []api.Place {
	return places(s, api.KindNode, func(body []byte) bool {
		n, e := node.Read(body)
		return e == api.OK && n.Key == key && n.Epoch == epoch
	})
}

// commitsAt gives where an epoch's commits stand.
func commitsAt(s *store.Store, epoch uint64) []api.Place {
	return places(s, api.KindCommit, func(body []byte) bool {
		c, e := node.ReadCommit(body)
		return e == api.OK && c.Epoch == epoch
	})
}

// viewsAt gives where the records of a view stand.
func viewsAt(s *store.Store, v api.View) []api.Place {
	return places(s, api.KindView, func(body []byte) bool { return bytes.Equal(body, plainView(v)) })
}

// plainView gives the body of a view's record by the chapter's words.
func plainView(v api.View) []byte {
	b := binary.LittleEndian.AppendUint64(nil, v.Number)
	return binary.LittleEndian.AppendUint64(append(b, byte(v.Members)), v.Base)
}

// plain is the chapter's store: nodes, an epoch, a view, and what is staged.
type plain struct {
	epoch  uint64
	nodes  map[int]api.Node
	view   api.View
	noted  bool
	staged map[int]api.Node
}

func newPlain() *plain {
	return &plain{nodes: map[int]api.Node{}, staged: map[int]api.Node{}}
}

func (p *plain) clone() *plain {
	c := *p
	c.nodes, c.staged = maps.Clone(p.nodes), maps.Clone(p.staged)
	return &c
}

// opened gives it as Open would: nothing is staged.
func (p *plain) opened() *plain {
	c := p.clone()
	clear(c.staged)
	return c
}

// commit gives the store behind a Commit.
func (p *plain) commit(epoch uint64, changes ...api.Change) *plain {
	c := p.opened()
	c.epoch = epoch
	for _, x := range changes {
		if x.Gone {
			delete(c.nodes, x.Key)
		} else {
			c.nodes[x.Key] = api.Node{Key: x.Key, Epoch: epoch, Body: x.Body}
		}
	}
	return c
}

// finish gives the store behind a Finish in which some nodes are gone, and the commit for it.
func (p *plain) finish(epoch uint64, less ...int) (*plain, api.Commit) {
	c := p.opened()
	c.epoch = epoch
	maps.Copy(c.nodes, p.staged)
	for _, key := range less {
		delete(c.nodes, key)
	}
	return c, c.last()
}

// note gives the store behind a Note.
func (p *plain) note(v api.View) *plain {
	c := p.clone()
	v.Members &= 255
	if !c.noted || v.Number >= c.view.Number {
		c.view, c.noted = v, true
	}
	return c
}

// last gives the last epoch's commit.
func (p *plain) last() api.Commit {
	if p.epoch == 0 {
		return api.Commit{}
	}
	c := api.Commit{Epoch: p.epoch}
	var b []byte
	for key := range 256 {
		if n, ok := p.nodes[key]; ok {
			c.Live[key/8] |= 1 << (key % 8)
			b = binary.LittleEndian.AppendUint64(append(b, byte(key)), n.Epoch)
		}
	}
	c.Sum = crc32.ChecksumIEEE(b)
	return c
}

// differs tells in what a store is another one, or nothing.
func (p *plain) differs(s *store.Store) string {
	if s.Epoch() != p.epoch || s.Last() != p.last() || s.Live() != p.last().Live {
		return fmt.Sprintf("Epoch %d, Last %v, Live %v, not the epoch %d", s.Epoch(), s.Last(), s.Live(), p.epoch)
	}
	if v, ok := s.View(); v != p.view || ok != p.noted {
		return fmt.Sprintf("View %v, %v, not %v, %v", v, ok, p.view, p.noted)
	}
	if !s.Sound() {
		return "it isn't Sound"
	}
	for key := range 256 {
		n, _, e := s.Node(key)
		is, ok := p.nodes[key]
		if !ok && (e != api.ErrNone || n.Key != 0 || n.Epoch != 0 || n.Body != nil) || ok && (e != api.OK || !same(n, is)) {
			return fmt.Sprintf("Node(%d): %v, %v, not %v", key, n, e, is)
		}
		if x, ok := p.staged[key]; ok {
			is = x
		}
		if is.Epoch > 0 && !s.Holds(key, is.Epoch) || s.Holds(key, is.Epoch+1) || s.Holds(key, is.Epoch-1) || s.Holds(key, 0) {
			return fmt.Sprintf("Holds(%d) isn't of the epoch %d", key, is.Epoch)
		}
	}
	return ""
}

// same tells whether two nodes are one.
func same(a, b api.Node) bool {
	return a.Key == b.Key && a.Epoch == b.Epoch && bytes.Equal(a.Body, b.Body)
}

// is tells of a store that isn't the chapter's one.
func (p *plain) is(t *testing.T, what string, s *store.Store) {
	t.Helper()
	if x := p.differs(s); x != "" {
		t.Fatalf("%s: %s", what, x)
	}
}

// holds tells of a store that isn't the chapter's one, or isn't when it is opened.
func (p *plain) holds(t *testing.T, what string, c *nand.Chip, s *store.Store) {
	t.Helper()
	p.is(t, what, s)
	p.opened().is(t, what+", opened", opened(t, what, c))
}

// commits commits changes with the next epoch.
func (p *plain) commits(t *testing.T, s *store.Store, changes ...api.Change) *plain {
	t.Helper()
	epoch := s.Seen() + 1
	if e := s.Commit(epoch, changes...); e != api.OK {
		t.Fatalf("Commit of %d: %v", epoch, e)
	}
	return p.commit(epoch, changes...)
}

// stages stages a node.
func (p *plain) stages(t *testing.T, s *store.Store, key int, epoch uint64, body string) {
	t.Helper()
	n := api.Node{Key: key, Epoch: epoch, Body: []byte(body)}
	if e := s.Stage(n); e != api.OK {
		t.Fatalf("Stage of %v: %v", n, e)
	}
	p.staged[key] = n
}

// filled gives changes of n nodes, with bodies of their own.
func filled(n int, body string) []api.Change {
	var list []api.Change
	for key := range n {
		list = append(list, change(key, fmt.Sprint(body, " of ", key)))
	}
	return list
}

// keys gives the keys of a chapter's store's nodes, rising.
func (p *plain) keys() []int { return slices.Sorted(maps.Keys(p.nodes)) }
