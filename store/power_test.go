package store_test

import (
	"fmt"
	"math/rand"
	"strings"
	"testing"

	"keelson/api"
	"keelson/nand"
	"keelson/store"
)

// keeps are amounts of an act that may be kept: pages of an erase, bytes of a program.
var keeps = []int{-1, 0, 1, 2, 3, 5, 8, 9, 100, 129, 252, 256, 257, 258, 300}

// fewKeeps are those of them that matter most.
var fewKeeps = []int{0, 1, 2, 5, 130, 257, 258}

// stage is a store in a scene, and what it is.
type stage struct {
	t    *testing.T
	what string
	c    *nand.Chip
	s    *store.Store
	p    *plain
	// others are what it may be, too, when it is opened: behind calls that broke off since the last one that was OK.
	others []*plain
	// forgets tells whether nothing is staged any more when the scene's call breaks off.
	forgets bool
}

// scene is a call in which the power ends, and what is ahead of it.
type scene struct {
	name string
	set  func(x *stage)
	// do does the call on a store, and gives what it is behind it.
	do func(x *stage) (*plain, api.Errno)
	// forgets tells whether nothing is staged any more when it breaks off.
	forgets bool
}

// fatal tells what went wrong.
func (x *stage) fatal(what ...any) {
	x.t.Helper()
	x.t.Fatalf("%s: %s", x.what, fmt.Sprintln(what...))
}

// commits commits changes with the next epoch.
func (x *stage) commits(changes ...api.Change) {
	x.t.Helper()
	x.p = x.p.commits(x.t, x.s, changes...)
}

// breaks lets the power end in a Commit of the next epoch.
func (x *stage) breaks(after, keep int, changes ...api.Change) {
	x.t.Helper()
	x.c.Cut(after, keep)
	want(x.t, x.what, x.s.Commit(x.s.Seen()+1, changes...), api.ErrDown)
	x.c.On()
	x.p = x.p.opened()
}

// opens opens the store.
func (x *stage) opens() {
	x.s = opened(x.t, x.what, x.c)
	x.p = x.p.opened()
}

// few lets there be some nodes, and a view.
func few(x *stage) {
	x.commits(filled(4, "a")...)
	x.commits(change(2, "b"), gone(3))
	v := api.View{Number: 4, Members: 3, Base: 1}
	want(x.t, x.what, x.s.Note(v), api.OK)
	x.p = x.p.note(v)
}

// full lets there be as many nodes as may be, of many epochs, and a log in which room must be made.
func full(x *stage) {
	few(x)
	x.commits(filled(19, "full")...)
	for i := range 31 {
		x.commits(change(i%19, fmt.Sprint("round ", i)), change((i+1+i%17)%19, fmt.Sprint("turn ", i)))
	}
}

// turned lets one bit of each page of the chip be turned.
func turned(x *stage) {
	for block := range x.c.Blocks() {
		for page := range api.BlockPages {
			want(x.t, "Flip", x.c.Flip(block, page, (61*block+259*page)%2064), api.OK)
		}
	}
}

// stale lets there be what Commits left that broke off.
func stale(x *stage) {
	few(x)
	x.breaks(1, 258, change(0, "stale"))
	x.breaks(3, 258, change(1, "stale"), change(2, "stale"), change(3, "stale"))
	x.opens()
}

// staged lets as many nodes be staged as may be.
func staged(x *stage) {
	full(x)
	for key := range 19 {
		x.p.stages(x.t, x.s, 100+key, x.p.epoch+1+uint64(key)/3, "staged")
	}
}

// hidden lets nodes be staged whose epochs are between those of the nodes and the last one.
func hidden(x *stage) {
	few(x)
	x.commits(change(1, "c"))
	x.p.stages(x.t, x.s, 0, 2, "later, but not above")
	x.p.stages(x.t, x.s, 1, 3, "of the same epoch")
	x.p.stages(x.t, x.s, 2, 2, "of the same epoch")
	x.p.stages(x.t, x.s, 7, 1, "of none")
	x.p.stages(x.t, x.s, 8, 4, "above")
}

// commit gives a call that commits changes.
func commit(changes ...api.Change) func(x *stage) (*plain, api.Errno) {
	return func(x *stage) (*plain, api.Errno) {
		epoch := x.s.Seen() + 1
		return x.p.commit(epoch, changes...), x.s.Commit(epoch, changes...)
	}
}

// finish gives a call that finishes without some nodes.
func finish(less ...int) func(x *stage) (*plain, api.Errno) {
	return func(x *stage) (*plain, api.Errno) {
		p, c := x.p.finish(x.p.epoch+9, less...)
		return p, x.s.Finish(c)
	}
}

// note notes a view.
func note(x *stage) (*plain, api.Errno) {
	v := api.View{Number: 9, Members: 1, Base: 2}
	return x.p.note(v), x.s.Note(v)
}

// stageOne stages a node.
func stageOne(x *stage) (*plain, api.Errno) {
	n := api.Node{Key: 9, Epoch: x.p.epoch + 1, Body: []byte("staged")}
	p := x.p.clone()
	p.staged[9] = n
	return p, x.s.Stage(n)
}

// repair repairs a node.
func repair(x *stage) (*plain, api.Errno) { return x.p, x.s.Repair(x.p.nodes[2]) }

// refresh refreshes.
func refresh(x *stage) (*plain, api.Errno) { return x.p, x.s.Refresh() }

func scenes() []scene {
	var list []scene
	add := func(name string, do func(x *stage) (*plain, api.Errno), set ...func(x *stage)) {
		list = append(list, scene{name, func(x *stage) {
			for _, f := range set {
				f(x)
			}
		}, do, strings.HasPrefix(name, "a Commit")})
	}
	opens := (*stage).opens
	add("a Commit", commit(change(1, "new"), change(2, ""), gone(0)), few)
	add("a Commit, opened", commit(change(1, "new")), few, opens)
	add("a Commit without changes", commit(), few)
	add("a Commit of all", commit(filled(19, "new")...), full)
	add("a Commit, with turned bits", commit(change(1, "new"), gone(4)), full, turned)
	add("a Commit of all, opened, with turned bits", commit(filled(19, "new")...), full, turned, opens)
	add("a Commit behind others that broke off", commit(change(1, "new")), stale)
	add("a Commit of none behind others that broke off", commit(), stale)
	add("a Commit in which what is staged is forgotten", commit(change(1, "new")), staged)
	add("a Finish", finish(1), few, func(x *stage) { stageOne(x); x.p.stages(x.t, x.s, 9, x.p.epoch+1, "staged") })
	add("a Finish of many", finish(every(19)...), staged)
	add("a Finish of what would be taken for others", finish(), hidden)
	add("a Finish of what would be taken for others, in a segment of its own", finish(3), hidden, func(x *stage) { x.p, _ = note(x) })
	add("a Finish of what is left", finish(), stale, func(x *stage) {
		for key := range 4 {
			x.p.stages(x.t, x.s, key, x.p.epoch+1, "staged")
		}
	})
	add("a Note", note, few)
	add("a Note, full", note, full)
	add("a Stage", stageOne, staged, func(x *stage) { x.opens(); x.s.Commit(x.s.Seen() + 1); x.p = x.p.commit(x.s.Epoch()) })
	add("a Repair", repair, few)
	add("a Repair, full, with turned bits", repair, full, turned)
	add("a Refresh", refresh, few, turned)
	add("a Refresh, full", refresh, full, turned)
	add("a Refresh with much that is staged", refresh, staged, turned)
	return list
}

// every gives the numbers from 0 on.
func every(n int) []int {
	list := make([]int, n)
	for i := range list {
		list[i] = i
	}
	return list
}

// at gives the scene set on a new chip.
func (s scene) at(t *testing.T, what string) *stage {
	t.Helper()
	x := &stage{t: t, what: s.name + ", " + what, p: newPlain(), forgets: s.forgets}
	x.c, x.s = formatted(t, 16)
	s.set(x)
	return x
}

// becomes takes what Open gives for what the store is: what it was, or what it would be.
func (x *stage) becomes(p *plain) {
	x.t.Helper()
	may := append(x.others, p)
	x.opens()
	x.others = nil
	y := x.p.differs(x.s)
	if y == "" {
		return
	}
	for _, p := range may {
		if p.opened().differs(x.s) == "" {
			x.p = p.opened()
			return
		}
	}
	x.fatal("opened:", y, "or", p.opened().differs(x.s))
}

// less gives changes by which some nodes are gone, but not that of a key.
func (x *stage) less(but int) []api.Change {
	var list []api.Change
	for _, key := range x.p.keys() {
		if key != but && len(list) < 3 {
			list = append(list, gone(key))
		}
	}
	return list
}

// goesOn tells of a store that can't be used as any other one.
func (x *stage) goesOn() {
	x.t.Helper()
	is := func(what string) {
		x.t.Helper()
		x.p.holds(x.t, x.what+", then "+what, x.c, x.s)
	}
	is("nothing")
	x.commits(append(x.less(0), change(0, "on"))...)
	is("a Commit")
	x.p.stages(x.t, x.s, 4, x.p.epoch+1, "on")
	is("a Stage")
	p, c := x.p.finish(x.p.epoch+2, 0)
	want(x.t, x.what, x.s.Finish(c), api.OK)
	x.p = p
	is("a Finish")
	want(x.t, x.what, x.s.Refresh(), api.OK)
	is("a Refresh")
	v := api.View{Number: 77}
	want(x.t, x.what, x.s.Note(v), api.OK)
	x.p = x.p.note(v)
	x.commits(change(4, "and on"))
	is("a Note and a Commit")
}

// anywhere does something behind each cut of each scene, with each of these amounts kept.
func anywhere(t *testing.T, keeps []int, then func(x *stage, p *plain)) {
	t.Helper()
	for _, s := range scenes() {
		t.Run(s.name, func(t *testing.T) {
			t.Parallel()
			for _, keep := range keeps {
				for after := 0; ; after++ {
					x := s.at(t, fmt.Sprintf("Cut(%d, %d)", after, keep))
					x.c.Cut(after, keep)
					acts := x.c.Count()
					p, e := s.do(x)
					x.c.On()
					if e == api.OK {
						p.holds(t, x.what, x.c, x.s)
						break
					}
					if e != api.ErrDown || x.c.Count() != acts+after+1 {
						x.fatal("it answers", e)
					}
					then(x, p)
				}
			}
		})
	}
}

// P11.6: wherever the power goes, and whatever is kept, Open gives the store as it was, or as it would be behind the call; and it goes on.
func TestCutAnywhere(t *testing.T) {
	t.Parallel()
	anywhere(t, keeps, func(x *stage, p *plain) {
		x.becomes(p)
		x.goesOn()
	})
}

// P11.3, rule 3: a store that is used on without Open is as it was; so it is when it is opened later on.
func TestCutUsedOn(t *testing.T) {
	t.Parallel()
	anywhere(t, fewKeeps, func(x *stage, p *plain) {
		if x.forgets {
			x.p = x.p.opened()
		}
		x.p.is(x.t, x.what, x.s)
		v := api.View{Number: 50}
		want(x.t, x.what, x.s.Note(v), api.OK)
		x.p = x.p.note(v)
		x.p.holds(x.t, x.what+", noted", x.c, x.s)
		x.goesOn()
	})
}

// P11.6: and so it is if the power goes again and again, each time somewhere else, till the call is done.
func TestCutTwice(t *testing.T) {
	t.Parallel()
	anywhere(t, []int{1, 257, 258}, func(x *stage, p *plain) {
		r := rand.New(rand.NewSource(int64(x.c.Count())))
		x.becomes(p)
		for i := 0; ; i++ {
			x.c.Cut(r.Intn(6+i), keeps[r.Intn(len(keeps))])
			epoch := x.s.Seen() + 1
			changes := append(x.less(1), change(1, fmt.Sprint("again ", i)))
			p := x.p.commit(epoch, changes...)
			e := x.s.Commit(epoch, changes...)
			x.c.On()
			if e == api.OK {
				x.p = p
				break
			}
			want(x.t, x.what, e, api.ErrDown)
			x.becomes(p)
			if i > 100 {
				x.fatal("it doesn't end")
			}
		}
		x.goesOn()
	})
}

// P11.6: and if one bit of each page turns behind the cut.
func TestCutTurned(t *testing.T) {
	t.Parallel()
	for _, s := range scenes() {
		if strings.Contains(s.name, "turned") || strings.Contains(s.name, "Refresh") {
			continue
		}
		for _, keep := range []int{1, 3, 130, 256, 257, 258} {
			for after := 0; ; after++ {
				x := s.at(t, fmt.Sprintf("turned, Cut(%d, %d)", after, keep))
				x.c.Cut(after, keep)
				p, e := s.do(x)
				x.c.On()
				turned(x)
				if e == api.OK {
					p.opened().is(t, x.what, opened(t, x.what, x.c))
					break
				}
				x.becomes(p)
				x.goesOn()
			}
		}
	}
}

// P11.4a, P11.6, rule 3: a Repair that broke off, of a store that is used on, isn't there later on, though its record was written wholly.
func TestRepairUsedOn(t *testing.T) {
	for _, keep := range keeps {
		c, s := formatted(t, 16)
		p := newPlain().commits(t, s, change(1, "a"), change(2, "b"))
		c.Cut(0, keep)
		want(t, "Repair", s.Repair(api.Node{Key: 1, Epoch: 1, Body: []byte("another body")}), api.ErrDown)
		c.On()
		p.is(t, "used on", s)
		want(t, "Note", s.Note(api.View{Number: 1}), api.OK)
		p.note(api.View{Number: 1}).holds(t, fmt.Sprint("used on, keep ", keep), c, s)
	}
}

// P11.6: no cuts, however often and wherever, leave a full store without room.
func TestStorm(t *testing.T) {
	t.Parallel()
	for seed := range int64(36) {
		r := rand.New(rand.NewSource(seed))
		x := scene{name: "storm", set: full}.at(t, fmt.Sprint("seed ", seed))
		for i := range 300 {
			after := r.Intn(2 + int(seed)%7)
			if seed%2 == 0 {
				// At, or near, the first record: what is written is in vain, and takes room.
				after = r.Intn(20) / 18
				if x.s.Room() == 0 {
					after += 3
				}
			}
			if i%60 < 50 {
				x.c.Cut(after, keeps[r.Intn(len(keeps))])
			}
			x.stormy(r, i)
		}
		x.goesOn()
	}
}

// P11.7, rule 3: nor do they if the store is used on each time, and twice as much counts.
func TestStormUsedOn(t *testing.T) {
	t.Parallel()
	for seed := range int64(24) {
		r := rand.New(rand.NewSource(seed))
		x := scene{name: "storm", set: staged}.at(t, fmt.Sprint("used on, seed ", seed))
		for i := range 400 {
			after := r.Intn(20) / 14
			if x.s.Room() == 0 {
				after += 1 + int(seed)%3
			}
			if i%80 < 70 {
				x.c.Cut(after, keeps[r.Intn(len(keeps))])
			}
			n := api.Node{Key: 100 + r.Intn(19), Epoch: 200, Body: fmt.Append(nil, i)}
			e := x.s.Stage(n)
			x.c.On()
			if e == api.OK {
				x.p.staged[n.Key] = n
			} else if e != api.ErrDown {
				x.fatal(i, e)
			}
			x.p.is(t, x.what, x.s)
		}
		p, c := x.p.finish(200, every(19)...)
		want(t, x.what, x.s.Finish(c), api.OK)
		p.holds(t, x.what, x.c, x.s)
	}
}

// stormy does a call, in which the power may end.
func (x *stage) stormy(r *rand.Rand, i int) {
	x.t.Helper()
	p, what := x.p, r.Intn(4)
	epoch := x.s.Seen() + 1
	changes := filled(19, fmt.Sprint("storm ", i))[:1+r.Intn(19)]
	for _, key := range x.p.keys() {
		if key >= 19 {
			changes = append(changes, gone(key))
		}
	}
	e := api.OK
	switch what {
	case 0:
		v := api.View{Number: uint64(i)}
		p, e = x.p.note(v), x.s.Note(v)
	case 1:
		e = x.s.Refresh()
	default:
		p, e = x.p.commit(epoch, changes...), x.s.Commit(epoch, changes...)
	}
	x.c.On()
	switch {
	case e == api.OK:
		x.p, x.others = p, nil
	case e != api.ErrDown:
		x.fatal(i, e)
	case r.Intn(4) == 0:
		x.p.is(x.t, x.what, x.s)
		x.others = append(x.others, p)
	default:
		x.becomes(p)
	}
}

// P11.6: the chapter's example.
func TestExample(t *testing.T) {
	for after := range 2 {
		for keep := range 259 {
			c, s := formatted(t, 16)
			p := newPlain().commits(t, s, change(5, "x"))
			c.Cut(after, keep)
			want(t, "Commit", s.Commit(2, gone(5), change(6, "y")), api.ErrDown)
			c.On()
			if after == 1 && keep == 258 {
				p = p.commit(2, gone(5), change(6, "y"))
			}
			p.is(t, fmt.Sprintf("Cut(%d, %d)", after, keep), opened(t, "opened", c))
		}
	}
}
