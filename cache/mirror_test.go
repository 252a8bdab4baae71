package cache_test

import (
	"fmt"
	"math/rand"
	"slices"
	"testing"

	"keelson/api"
	"keelson/cache"
	"keelson/mirror"
	"keelson/nand"
	"keelson/view"
)

// scene is a cache over a mirror, and what the mirror is over.
type scene struct {
	p     *nand.Power
	chips [2]*nand.Chip
	m     *mirror.Mirror
	c     *cache.Cache
}

// newScene gives a scene over two blank chips of 16 blocks.
func newScene(t *testing.T) *scene {
	t.Helper()
	x := &scene{p: nand.NewPower()}
	for i := range x.chips {
		x.chips[i], _ = nand.New(x.p, 16)
	}
	m, e := mirror.Make(view.NewTie(), x.chips[0], x.chips[1])
	if e != api.OK {
		t.Fatal(e)
	}
	x.m, x.c = m, cache.New(m)
	return x
}

// wants tells of an error that isn't the one wanted.
func wants(t *testing.T, what string, got, e api.Errno) {
	t.Helper()
	if got != e {
		t.Errorf("%s: %v, not %v", what, got, e)
	}
}

// gets tells unless a node is as wanted.
func (x *scene) gets(t *testing.T, key int, body string, e api.Errno) {
	t.Helper()
	if b, f := x.c.Get(key); string(b) != body || f != e {
		t.Errorf("Get(%d): %q, %v, not %q, %v", key, b, f, body, e)
	}
}

// P19.1 to P19.4: a cache over a mirror; the changes are kept, and forgotten.
func TestOverMirror(t *testing.T) {
	x := newScene(t)
	wants(t, "Put", x.c.Put(change(8, "top"), change(9, "chunk")), api.OK)
	x.gets(t, 8, "top", api.OK)
	if x.m.Live() != lives() || x.c.Live() != lives(8, 9) {
		t.Error("Put reaches the mirror")
	}
	wants(t, "Commit", x.m.Commit(x.c.Changes()...), api.OK)
	x.c.Clear()
	x.gets(t, 8, "top", api.OK)
	wants(t, "Put", x.c.Put(gone(8), change(9, "new"), gone(10)), api.OK)
	x.gets(t, 8, "", api.ErrNone)
	if l := x.c.Changes(); !same(l, []api.Change{gone(8), change(9, "new")}) || x.c.Live() != lives(9) || x.m.Live() != lives(8, 9) {
		t.Error(l, x.c.Live())
	}
	x.c.Clear()
	x.gets(t, 8, "top", api.OK)
	x.gets(t, 9, "chunk", api.OK)
}

// P19.2: without power, or chips, what was changed is there, and the rest is the mirror's to answer.
func TestMirrorsErrors(t *testing.T) {
	x := newScene(t)
	wants(t, "Commit", x.m.Commit(change(8, "kept"), change(9, "kept")), api.OK)
	wants(t, "Put", x.c.Put(change(8, "new"), gone(9), gone(11)), api.OK)
	x.p.Cut(0, 0)
	wants(t, "Commit", x.m.Commit(change(1, "cut")), api.ErrDown)
	x.gets(t, 8, "new", api.OK)
	x.gets(t, 9, "", api.ErrNone)
	x.gets(t, 11, "", api.ErrNone)
	x.gets(t, 10, "", api.ErrDown)
	x.p.On()
	x.chips[0].Die()
	x.chips[1].Put(false)
	x.gets(t, 8, "new", api.OK)
	x.gets(t, 9, "", api.ErrNone)
	x.gets(t, 10, "", api.ErrDead)
	if x.c.Live() != lives(8) {
		t.Error(x.c.Live())
	}
	if l := x.c.Changes(); !same(l, []api.Change{change(8, "new")}) {
		t.Error(l)
	}
	wants(t, "Put without chips", x.c.Put(change(12, "")), api.ErrNoSpace)
	wants(t, "Put of a node that is there", x.c.Put(change(8, "")), api.OK)
}

// P19.3: the Limit is the mirror's, and what a cache takes the mirror takes.
func TestMirrorsLimit(t *testing.T) {
	x := newScene(t)
	limit := x.m.Limit()
	for key := range limit {
		wants(t, fmt.Sprint("Put of ", key), x.c.Put(size(key, 224)), api.OK)
	}
	wants(t, "one more", x.c.Put(change(limit, "")), api.ErrNoSpace)
	wants(t, "Commit", x.m.Commit(x.c.Changes()...), api.OK)
	wants(t, "one more, behind the Commit", x.c.Put(change(limit, "")), api.ErrNoSpace)
	x.c.Clear()
	wants(t, "one more, behind Clear", x.c.Put(change(limit, "")), api.ErrNoSpace)
	wants(t, "one for another one", x.c.Put(change(limit, ""), gone(0)), api.OK)
	wants(t, "Commit", x.m.Commit(x.c.Changes()...), api.OK)
}

// wild does anything to a cache over a mirror, and gives all that was answered.
func wild(t *testing.T, seed int64) []string {
	x, r := newScene(t), rand.New(rand.NewSource(seed))
	var all []string
	note := func(a ...any) { all = append(all, fmt.Sprint(a...)) }
	for range 150 {
		key := r.Intn(20)
		if r.Intn(6) == 0 {
			key = odd[r.Intn(len(odd))]
		}
		switch r.Intn(9) {
		case 0:
			x.p.Cut(r.Intn(9), r.Intn(300)-10)
		case 1:
			x.p.On()
		case 2:
			x.chips[r.Intn(2)].Put(r.Intn(3) > 0)
		case 3:
			x.chips[r.Intn(2)].Flip(r.Intn(16), r.Intn(8), r.Intn(2064))
		case 4:
			note(x.m.Commit(x.c.Changes()...))
		case 5:
			x.c.Clear()
		case 6:
			list := some(r)
			for i := range list {
				list[i].Key /= 17
			}
			note(x.c.Put(list...))
		default:
			note(x.c.Put(api.Change{Key: key, Gone: r.Intn(2) == 0, Body: make([]byte, r.Intn(230))}))
		}
		b, e := x.c.Get(key)
		note(b, e, x.c.Live(), x.c.Changes())
	}
	note(x.chips[0].Count(), x.chips[1].Count())
	return all
}

// P1, P2: whatever is done, no call panics, and two runs of the same calls give the same answers, and do the same acts.
func TestWild(t *testing.T) {
	t.Parallel()
	for seed := range int64(60) {
		if !slices.Equal(wild(t, seed), wild(t, seed)) {
			t.Errorf("seed %d: two runs differ", seed)
		}
	}
	c := cache.New(holding(9))
	wants(t, "very many", c.Put(make([]api.Change, 1<<20)...), api.ErrArg)
}
