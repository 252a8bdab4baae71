package resync_test

import (
	"fmt"
	"maps"
	"testing"

	"keelson/api"
	"keelson/bbt"
	"keelson/mirror"
	"keelson/nand"
	"keelson/node"
	"keelson/resync"
	"keelson/store"
	"keelson/view"
)

// noSpares are blocks by which a chip has no spare.
var noSpares = []int{4, 6, 9, 13}

// change gives the change by which a node has a body.
func change(key int, body string) api.Change { return api.Change{Key: key, Body: []byte(body)} }

// gone gives the change by which a node is gone.
func gone(key int) api.Change { return api.Change{Key: key, Gone: true} }

// filled gives changes of n nodes, from a key on.
func filled(from, n int, body string) []api.Change {
	var list []api.Change
	for key := from; key < from+n; key++ {
		list = append(list, change(key, fmt.Sprint(body, " of ", key)))
	}
	return list
}

// nodes are nodes' bodies by their keys; of one that can't be read the error.
type nodes map[int]string

// with gives the nodes behind changes.
func (n nodes) with(changes ...api.Change) nodes {
	n = maps.Clone(n)
	for _, c := range changes {
		if c.Gone {
			delete(n, c.Key)
		} else {
			n[c.Key] = string(c.Body)
		}
	}
	return n
}

// read gives all nodes of a mirror.
func read(m *mirror.Mirror) nodes {
	all := nodes{}
	for key := range api.Keys {
		switch body, e := m.Node(key); e {
		case api.OK:
			all[key] = string(body)
		case api.ErrNone:
		default:
			all[key] = e.Error()
		}
	}
	return all
}

// scene is two chips with one power, a tie, the mirror over them, and a Resync of that.
type scene struct {
	*mirror.Mirror
	r     *resync.Resync
	t     *testing.T
	what  string
	p     *nand.Power
	tie   *view.Tie
	chips [2]*nand.Chip
}

// made gives two chips of so many blocks with a mirror over them.
func made(t *testing.T, what string, blocks int, bad ...[]int) *scene {
	t.Helper()
	x := &scene{t: t, what: what, p: nand.NewPower(), tie: view.NewTie()}
	bad = append(bad, nil, nil)
	for chip := range x.chips {
		x.chips[chip] = x.blank(blocks, bad[chip]...)
	}
	m, e := mirror.Make(x.tie, x.chips[0], x.chips[1])
	x.want("Make", e, api.OK)
	x.over(m)
	return x
}

// blank gives a blank chip with the scene's power.
func (x *scene) blank(blocks int, bad ...int) *nand.Chip {
	x.t.Helper()
	c, e := nand.New(x.p, blocks, bad...)
	x.want("nand.New", e, api.OK)
	return c
}

// want tells of an error that isn't the one wanted.
func (x *scene) want(what string, got, e api.Errno) {
	x.t.Helper()
	if got != e {
		x.t.Fatalf("%s: %s: %v, not %v", x.what, what, got, e)
	}
}

// anew Opens the mirror, with a Resync anew.
func (x *scene) anew() {
	x.t.Helper()
	m, e := mirror.Open(x.tie, x.chips[0], x.chips[1])
	x.want("Open", e, api.OK)
	x.over(m)
}

// over lets a mirror be the scene's, with a Resync anew.
func (x *scene) over(m *mirror.Mirror) { x.Mirror, x.r = m, resync.New(m) }

// off lets the power end, with no act of the two chips.
func (x *scene) off() {
	c := x.blank(16)
	x.p.Cut(0, 0)
	c.Erase(0)
}

// acts gives how many acts there were.
func (x *scene) acts() int { return x.chips[0].Count() + x.chips[1].Count() }

// commits Commits, which must be OK.
func (x *scene) commits(changes ...api.Change) {
	x.t.Helper()
	x.want("Commit", x.Commit(changes...), api.OK)
}

// fences lets a chip be fenced out, by a Commit without it.
func (x *scene) fences(chip int, changes ...api.Change) {
	x.t.Helper()
	x.chips[chip].Put(false)
	x.commits(changes...)
	x.chips[chip].Put(true)
	if x.Member(chip) || !x.Up(chip) {
		x.t.Fatalf("%s: the chip %d isn't fenced out, or isn't up", x.what, chip)
	}
}

// puts puts a chip in a chip's place.
func (x *scene) puts(chip int, c *nand.Chip) {
	x.chips[chip] = c
	x.Replace(chip, c)
}

// store gives a chip's store, which must be up.
func (x *scene) store(chip int) *store.Store {
	x.t.Helper()
	s, ok := x.Store(chip)
	if s == nil || !ok {
		x.t.Fatalf("%s: the chip %d isn't up", x.what, chip)
	}
	return s
}

// steps does a Step, which must answer that.
func (x *scene) steps(what string, done bool, e api.Errno) {
	x.t.Helper()
	if got, f := x.r.Step(); got != done || f != e {
		x.t.Fatalf("%s: %s: %v, %v, not %v, %v", x.what, what, got, f, done, e)
	}
}

// back does Steps until both are members, and gives how many.
func (x *scene) back() int {
	x.t.Helper()
	for n := 1; n <= x.r.Most(); n++ {
		done, e := x.r.Step()
		x.want(fmt.Sprint("the Step ", n), e, api.OK)
		if done {
			x.views(api.Both)
			return n
		}
	}
	x.t.Fatalf("%s: it isn't back behind %d Steps", x.what, x.r.Most())
	return 0
}

// views tells of a view with other members, or of a member that isn't up.
func (x *scene) views(members int) {
	x.t.Helper()
	v := x.tie.Get()
	if v.Members != members || x.View() != v {
		x.t.Fatalf("%s: the view is %v, its members aren't %d", x.what, v, members)
	}
	for chip := range x.chips {
		if x.Member(chip) && !x.Up(chip) {
			x.t.Fatalf("%s: the chip %d isn't up", x.what, chip)
		}
	}
}

// is tells of other nodes than these.
func (x *scene) is(what string, all nodes) {
	x.t.Helper()
	if got := read(x.Mirror); !maps.Equal(got, all) {
		x.t.Fatalf("%s: %s: %v, not %v", x.what, what, got, all)
	}
}

// alone tells of a mirror that hasn't the same nodes, and the same epoch, when it is opened with either chip alone.
func (x *scene) alone(all nodes) {
	x.t.Helper()
	x.is("both", all)
	epoch, v := x.Epoch(), x.tie.Get()
	for chip := range x.chips {
		tie := view.NewTie()
		x.want("Set", tie.Set(v), api.OK)
		x.chips[1-chip].Put(false)
		m, e := mirror.Open(tie, x.chips[0], x.chips[1])
		x.want(fmt.Sprint("Open with the chip ", chip, " alone"), e, api.OK)
		if got := read(m); !maps.Equal(got, all) || m.Epoch() != epoch {
			x.t.Fatalf("%s: the chip %d alone: %v of the epoch %d, not %v of %d", x.what, chip, got, m.Epoch(), all, epoch)
		}
		x.chips[1-chip].Put(true)
	}
}

// spoil turns two bits of each record of a node, of any epoch, on a chip.
func (x *scene) spoil(chip, key int) {
	x.t.Helper()
	table, e := bbt.Open(x.chips[chip])
	x.want("bbt.Open", e, api.OK)
	s := x.store(chip)
	for _, segment := range s.Segments() {
		for _, at := range segment.Records {
			kind, body, _, _ := s.Get(at)
			n, e := node.Read(body)
			if e != api.OK || kind != api.KindNode || n.Key != key {
				continue
			}
			block, _ := table.At(at.Block)
			for _, bit := range []int{20, 77} {
				x.want("Flip", x.chips[chip].Flip(block, at.Page, bit), api.OK)
			}
		}
	}
	if _, _, e := s.Node(key); e != api.ErrCorrupt {
		x.t.Fatalf("%s: the chip %d can still read the node %d: %v", x.what, chip, key, e)
	}
}
