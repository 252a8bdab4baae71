package store_test

import (
	"fmt"
	"math/rand"
	"slices"
	"testing"

	"keelson/api"
	"keelson/nand"
	"keelson/store"
)

// P11.7: with as many nodes as Limit, and as many staged, there is always room, whatever is done, and in whatever order.
func TestAlwaysRoom(t *testing.T) {
	t.Parallel()
	for _, blocks := range []int{16, 17, 18, 21, 28, 40} {
		c, s := formatted(t, blocks)
		limit := s.Limit()
		p := newPlain().commits(t, s, filled(limit, "first")...)
		v := api.View{Number: 1, Members: 3}
		want(t, "Note", s.Note(v), api.OK)
		p = p.note(v)
		for round := range 4 {
			// All at once, then one by one, each as one and with others.
			p = p.commits(t, s, filled(limit, fmt.Sprint("round ", round))...)
			for key := range limit {
				p = p.commits(t, s, change(key*7%limit, "alone"))
			}
			for key := range limit {
				p.stages(t, s, key, p.epoch+1, fmt.Sprint("staged ", round))
				p.stages(t, s, key, p.epoch+2, fmt.Sprint("staged again ", round))
			}
			for range limit {
				want(t, "Note", s.Note(v), api.OK)
				want(t, "Repair", s.Repair(p.nodes[3]), api.OK)
			}
			p.holds(t, fmt.Sprint(blocks, " blocks, staged"), c, s)
			if round%2 == 0 {
				q, x := p.finish(p.epoch + 2)
				want(t, "Finish", s.Finish(x), api.OK)
				p = q
			}
			p = p.commits(t, s, filled(limit, "all")...)
			p.holds(t, fmt.Sprint(blocks, " blocks, round ", round), c, s)
		}
	}
}

// P11.7: nodes of other keys are staged than there are, so that twice Limit count.
func TestRoomForTwice(t *testing.T) {
	t.Parallel()
	for _, blocks := range []int{16, 19, 40} {
		c, s := formatted(t, blocks)
		limit := s.Limit()
		p := newPlain()
		for round := range 5 {
			from := (round % 2) * 128
			for i := range limit {
				p.stages(t, s, from+i, p.epoch+1+uint64(i), fmt.Sprint("round ", round))
				for range 3 {
					// Each is written anew some times.
					p.stages(t, s, from+i, p.epoch+1+uint64(i), fmt.Sprint("round ", round, " anew"))
				}
			}
			var less []int
			for key := range p.nodes {
				less = append(less, key)
			}
			p.holds(t, "staged", c, s)
			q, x := p.finish(p.epoch+uint64(limit), less...)
			want(t, "Finish", s.Finish(x), api.OK)
			p = q
			p.holds(t, fmt.Sprint(blocks, " blocks, round ", round), c, s)
		}
	}
}

// P11.7: and so it is for nodes that Finish writes, as their epochs aren't above the last one.
func TestRoomForHidden(t *testing.T) {
	t.Parallel()
	for _, blocks := range []int{16, 40} {
		c, s := formatted(t, blocks)
		limit := s.Limit()
		p := newPlain().commits(t, s, filled(limit, "a")...)
		for round := range 5 {
			p = p.commits(t, s)
			for key := range limit {
				p.stages(t, s, key, p.epoch, fmt.Sprint("round ", round))
			}
			p.holds(t, "staged", c, s)
			q, x := p.finish(p.epoch + 1)
			want(t, "Finish", s.Finish(x), api.OK)
			p = q
			p.holds(t, fmt.Sprint(blocks, " blocks, round ", round), c, s)
		}
	}
}

// P11.6, P11.7: with failures, as long as there are spares, all goes on.
func TestRoomWithFailures(t *testing.T) {
	t.Parallel()
	for seed := range int64(20) {
		r := rand.New(rand.NewSource(seed))
		c, s := formatted(t, 16, 5)
		p := newPlain()
		for i := range 120 {
			if i%40 == 10 {
				c.Fail(seed%2 == 0, r.Intn(30))
			}
			p = p.commits(t, s, filled(19, fmt.Sprint("round ", i))[:1+r.Intn(19)]...)
			if i%20 == 0 {
				p.holds(t, fmt.Sprint("seed ", seed), c, s)
			}
		}
		p.holds(t, fmt.Sprint("seed ", seed), c, s)
		if s.Lost() < 2 {
			t.Errorf("seed %d: Lost is %d", seed, s.Lost())
		}
	}
}

// P11.7: where no spare is left it is ErrWorn, never ErrNoSpace; what was OK ahead can be read.
func TestWorn(t *testing.T) {
	t.Parallel()
	for seed := range int64(20) {
		r := rand.New(rand.NewSource(seed))
		c, s := formatted(t, 16)
		p := newPlain().commits(t, s, filled(19, "a")...)
		worn := 0
		for i := range 200 {
			if r.Intn(2) == 0 {
				c.Fail(r.Intn(2) == 0, r.Intn(4), r.Intn(9))
			}
			epoch := s.Seen() + 1
			changes := filled(19, fmt.Sprint("round ", i))[:1+r.Intn(19)]
			switch e := s.Commit(epoch, changes...); e {
			case api.OK:
				p = p.commit(epoch, changes...)
			case api.ErrWorn:
				worn++
			default:
				t.Fatalf("seed %d: %v", seed, e)
			}
			p.is(t, fmt.Sprint("seed ", seed), s)
		}
		if worn == 0 {
			t.Errorf("seed %d: it was never ErrWorn", seed)
		}
	}
}

// all calls everything with arguments of all kinds, and gives all that was answered.
func all(c *nand.Chip, s *store.Store) []string {
	var list []string
	tell := func(what ...any) { list = append(list, fmt.Sprint(what...)) }
	keys := append([]int{0, 1, 7, 255}, odd...)
	epochs := []uint64{0, 1, 2, 3, 40, 1<<64 - 1}
	bodies := [][]byte{nil, {}, {1, 2, 3}, make([]byte, 224), make([]byte, 225), make([]byte, 5000)}
	for _, key := range keys {
		n, bits, e := s.Node(key)
		tell(n, bits, e)
		for _, epoch := range epochs {
			tell(s.Holds(key, epoch))
			for _, body := range bodies {
				n := api.Node{Key: key, Epoch: epoch, Body: body}
				tell(s.Stage(n), s.Repair(n), s.Commit(epoch, api.Change{Key: key, Body: body}), s.Commit(s.Seen()+1, api.Change{Key: key, Body: body}))
			}
			tell(s.Finish(api.Commit{Epoch: epoch}), s.Finish(api.Commit{Epoch: epoch, Live: api.Live{255, 255, 255}, Sum: 7}), s.Finish(s.Last()))
		}
		v, ok := s.View()
		tell(s.Note(api.View{Number: uint64(key), Members: key}), v, ok)
	}
	tell(s.Refresh(), s.Epoch(), s.Seen(), s.Sound(), s.Live(), s.Limit(), s.Last(), c.Count())
	return list
}

// P1, P2: no call panics, whatever it is given, with power and the chip and without, and two runs give the same answers.
func TestWild(t *testing.T) {
	run := func() []string {
		c, s := formatted(t, 16)
		list := all(c, s)
		powerOff(c)
		list = append(list, all(c, s)...)
		c.On()
		list = append(list, all(c, s)...)
		c.Put(false)
		list = append(list, all(c, s)...)
		c.Put(true)
		// Pages of all kinds, where records stood.
		for block := range c.Blocks() {
			for page := range api.BlockPages {
				for i := range (block + page) % 7 {
					c.Flip(block, page, (block*page*97+i*311)%2064)
				}
			}
		}
		list = append(list, all(c, s)...)
		o, e := store.Open(c)
		list = append(list, fmt.Sprint(e))
		if e == api.OK {
			list = append(list, all(c, o)...)
		}
		c.Die()
		return append(list, all(c, s)...)
	}
	if !slices.Equal(run(), run()) {
		t.Error("two runs differ")
	}
}

// fill writes over bytes, their spare room too.
func fill(b []byte) {
	b = b[:cap(b)]
	for i := range b {
		b[i] = 0xa5
	}
}

// P11.8: what is handed in isn't changed, its spare room neither, and isn't kept; answers are new memory.
func TestOwnMemory(t *testing.T) {
	c, s := formatted(t, 16)
	whole := []byte("the bodies of some nodes, and more behind them")
	kept := slices.Clone(whole)
	changes := []api.Change{{Key: 1, Body: whole[4:10]}, {Key: 2, Body: whole[14:18]}, gone(3)}
	want(t, "Commit", s.Commit(1, changes...), api.OK)
	p := newPlain().commit(1, change(1, string(kept[4:10])), change(2, string(kept[14:18])))
	check := func(what string) {
		t.Helper()
		if !slices.Equal(whole, kept) || len(changes) != 3 || changes[0].Key != 1 || changes[2].Key != 3 {
			t.Errorf("%s: what was handed in has changed", what)
		}
		fill(whole)
		p.holds(t, what, c, s)
		copy(whole, kept)
	}
	check("Commit")
	for i, n := range []api.Node{{Key: 1, Epoch: 1, Body: whole[:5]}, {Key: 2, Epoch: 7, Body: whole[5:9]}} {
		want(t, "Stage", s.Stage(n), api.OK)
		p.staged[n.Key] = api.Node{Key: n.Key, Epoch: n.Epoch, Body: slices.Clone(n.Body)}
		check(fmt.Sprint("Stage ", i))
	}
	fill(whole)
	q, x := p.finish(8)
	want(t, "Finish", s.Finish(x), api.OK)
	copy(whole, kept)
	p = q
	check("Finish")
	want(t, "Repair", s.Repair(api.Node{Key: 1, Epoch: 1, Body: whole[:5]}), api.OK)
	check("Repair")
	a, _, _ := s.Node(1)
	b, _, _ := s.Node(1)
	fill(a.Body)
	if string(b.Body) != string(kept[:5]) {
		t.Error("what Node gave shares memory")
	}
	check("Node")
}

// Rule 6: two stores on two chips of one power are each by itself.
func TestTwoStores(t *testing.T) {
	power := nand.NewPower()
	c, _ := nand.New(power, 16)
	d, _ := nand.New(power, 18)
	s, _ := store.Format(c)
	u, _ := store.Format(d)
	p := newPlain().commits(t, s, change(1, "a"))
	q := newPlain().commits(t, u, change(2, "b"), change(3, "c"))
	q.stages(t, u, 9, 5, "staged")
	p.holds(t, "the first one", c, s)
	q.holds(t, "the second one", d, u)
	c.Cut(1, 0)
	want(t, "Commit", s.Commit(2, change(1, "d")), api.ErrDown)
	want(t, "Commit", u.Commit(6), api.ErrDown)
	c.On()
	p.holds(t, "the first one", c, s)
	q.holds(t, "the second one", d, u)
}
