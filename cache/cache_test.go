package cache_test

import (
	"bytes"
	"fmt"
	"math"
	"math/rand"
	"slices"
	"testing"

	"keelson/api"
	"keelson/cache"
)

// P19.4: the chapter's example.
func TestExample(t *testing.T) {
	x := over(t, holding(9, 1))
	x.puts(change(5, "x"))
	x.puts(gone(5))
	if l := x.c.Changes(); len(l) != 0 {
		t.Error(l)
	}
}

// P19.1: a new cache has no changes, and a cleared one neither.
func TestNewAndClear(t *testing.T) {
	x := over(t, holding(6, 0, 7, 8, 255))
	x.holds()
	x.clears()
	x.puts(change(0, "new"), gone(7), change(9, ""), gone(10))
	x.clears()
	if l := x.c.Changes(); len(l) != 0 || x.c.Live() != lives(0, 7, 8, 255) {
		t.Errorf("%v, %v", l, x.c.Live())
	}
	if b, e := x.c.Get(0); !bytes.Equal(b, x.p.s.nodes[0]) || e != api.OK {
		t.Errorf("%q, %v", b, e)
	}
	x.puts(change(7, "again"), gone(8))
	x.clears()
	x.clears()
}

// P19.1: two caches over one source have changes of their own.
func TestOnesOwn(t *testing.T) {
	s := holding(9, 1, 2)
	one, two := over(t, s), over(t, s)
	one.puts(change(1, "one"), gone(2), change(3, "one"))
	two.holds()
	two.puts(change(3, "two"))
	one.holds()
	two.clears()
	one.holds()
	if len(s.nodes) != 2 || string(s.nodes[1]) == "one" {
		t.Errorf("the source was changed: %v", s.nodes)
	}
}

// P19.2, P19.4: one key, changed again and again, of which the source has a node or not.
func TestOneKey(t *testing.T) {
	for _, key := range []int{0, 1, 7, 8, 31, 128, 254, 255} {
		for _, s := range []*shelf{holding(9), holding(9, key), holding(9, 3, key, 200)} {
			x := over(t, s)
			for _, c := range []api.Change{change(key, "a"), change(key, "b"), change(key, ""), gone(key), gone(key), change(key, "c"), size(key, 224), gone(key), {Key: key}} {
				if e := x.puts(c); e != api.OK {
					t.Errorf("%v: %v", c, e)
				}
			}
		}
	}
}

// P19.2: what is empty is there, and what is Gone isn't.
func TestEmpty(t *testing.T) {
	x := over(t, holding(9, 1, 2))
	x.puts(change(1, ""), gone(2))
	if b, e := x.c.Get(1); len(b) != 0 || e != api.OK {
		t.Errorf("%q, %v", b, e)
	}
	if b, e := x.c.Get(2); len(b) != 0 || e != api.ErrNone {
		t.Errorf("%q, %v", b, e)
	}
	if x.c.Live() != lives(1) {
		t.Error(x.c.Live())
	}
}

// P19.2: the source's errors are handed on, but not of what was changed.
func TestFaults(t *testing.T) {
	for _, fault := range []api.Errno{api.ErrCorrupt, api.ErrDown, api.ErrDead, api.ErrNone, 77} {
		s := holding(9, 1, 2, 3)
		x := over(t, s)
		x.puts(change(1, "new"), gone(2), change(4, "more"), gone(5))
		s.fault = fault
		x.holds()
		if b, e := x.c.Get(3); len(b) != 0 || e != fault {
			t.Errorf("%q, %v", b, e)
		}
		if b, e := x.c.Get(1); string(b) != "new" || e != api.OK {
			t.Errorf("%q, %v", b, e)
		}
		for _, key := range []int{2, 5} {
			if _, e := x.c.Get(key); e != api.ErrNone {
				t.Errorf("%d: %v", key, e)
			}
		}
		if e := x.puts(change(3, "now"), gone(4)); e != api.OK {
			t.Error(e)
		}
		x.clears()
	}
}

// P19.2: a key that is none is the source's to answer.
func TestOddKeys(t *testing.T) {
	s := holding(9, 1)
	c := cache.New(s)
	for _, key := range odd {
		if b, e := c.Get(key); len(b) != 0 || e != api.ErrNone {
			t.Errorf("%d: %q, %v", key, b, e)
		}
	}
}

// P19.3: what is no change is refused, wherever in the list it stands, and nothing of the list is made.
func TestPutRefuses(t *testing.T) {
	wrong := [][]api.Change{{size(5, 225)}, {size(5, 226)}, {size(5, 240)}, {size(5, 1<<20)}, {{Key: 5, Gone: true, Body: make([]byte, 225)}}, {change(5, "a"), change(5, "b")}, {change(5, "a"), gone(5)}, {gone(5), change(5, "a")}, {gone(5), gone(5)}, {change(1, "a"), change(1, "a")}}
	for _, key := range odd {
		wrong = append(wrong, []api.Change{change(key, "a")}, []api.Change{gone(key)})
	}
	for _, list := range wrong {
		for _, fine := range [][]api.Change{nil, {change(0, "fine"), gone(1)}} {
			for _, limit := range []int{9, 0} {
				x := over(t, holding(limit, 1, 2))
				for _, all := range [][]api.Change{slices.Concat(fine, list), slices.Concat(list, fine)} {
					if e := x.puts(all...); e != api.ErrArg {
						t.Errorf("%v: %v", all, e)
					}
				}
				if len(x.c.Changes()) != 0 {
					t.Error(x.c.Changes())
				}
			}
		}
	}
}

// P19.3: what is a change, at its edges.
func TestPutTakes(t *testing.T) {
	x := over(t, holding(256, 1, 2))
	for _, list := range [][]api.Change{nil, {}, {size(0, 224)}, {size(255, 224), size(254, 0)}, {{Key: 1, Gone: true, Body: make([]byte, 224)}}, {gone(77)}, {change(2, "a"), change(3, "a")}} {
		if e := x.puts(list...); e != api.OK {
			t.Errorf("%v: %v", list, e)
		}
	}
	var all []api.Change
	for key := range 256 {
		all = append(all, change(255-key, fmt.Sprint(key)))
	}
	if e := x.puts(all...); e != api.OK {
		t.Error(e)
	}
	if e := x.puts(append(all, change(3, ""))...); e != api.ErrArg {
		t.Error(e)
	}
}

// P19.3: there may be as many nodes as the Limit, or as many as there are, if these are more.
func TestLimit(t *testing.T) {
	for i, c := range []struct {
		limit   int
		changes []api.Change
		want    api.Errno
	}{
		{4, []api.Change{change(9, "")}, api.OK}, {3, []api.Change{change(9, "")}, api.ErrNoSpace}, {4, []api.Change{change(9, ""), change(8, "")}, api.ErrNoSpace},
		{3, []api.Change{change(1, "")}, api.OK}, {3, []api.Change{gone(1), change(9, "")}, api.OK}, {3, []api.Change{change(9, ""), gone(1)}, api.OK}, {3, []api.Change{gone(9), change(8, "")}, api.ErrNoSpace},
		{3, []api.Change{gone(1), gone(2), change(8, ""), change(9, "")}, api.OK}, {3, []api.Change{gone(1), gone(2), change(7, ""), change(8, ""), change(9, "")}, api.ErrNoSpace},
		{2, []api.Change{change(1, "")}, api.OK}, {2, []api.Change{gone(1), change(9, "")}, api.OK}, {2, []api.Change{gone(1)}, api.OK}, {2, nil, api.OK}, {2, []api.Change{change(9, "")}, api.ErrNoSpace},
		{1, []api.Change{gone(1), change(2, "")}, api.OK}, {0, []api.Change{gone(1), change(9, "")}, api.OK}, {0, []api.Change{change(1, ""), change(9, "")}, api.ErrNoSpace},
		{-5, []api.Change{gone(1), gone(2), gone(3)}, api.OK}, {-5, []api.Change{change(1, "")}, api.OK}, {math.MinInt, []api.Change{change(9, "")}, api.ErrNoSpace}, {math.MaxInt, []api.Change{change(9, "")}, api.OK},
	} {
		if e := over(t, holding(c.limit, 1, 2, 3)).puts(c.changes...); e != c.want {
			t.Errorf("%d: %v, not %v", i, e, c.want)
		}
	}
}

// P19.3: nodes that were changed count as they are now, and the Limit is the source's of now.
func TestLimitOfNow(t *testing.T) {
	s := holding(4, 1, 2, 3)
	x := over(t, s)
	for i, c := range []struct {
		change api.Change
		limit  int
		want   api.Errno
	}{
		{change(4, ""), 4, api.OK}, {change(5, ""), 4, api.ErrNoSpace}, {gone(1), 4, api.OK}, {change(5, ""), 4, api.OK}, {change(6, ""), 4, api.ErrNoSpace}, {change(6, ""), 5, api.OK},
		{change(6, "x"), 2, api.OK}, {gone(6), 2, api.OK}, {change(6, ""), 2, api.ErrNoSpace}, {change(1, ""), 2, api.ErrNoSpace}, {gone(5), 2, api.OK}, {gone(4), 2, api.OK}, {gone(3), 2, api.OK}, {change(3, ""), 2, api.OK}, {change(4, ""), 2, api.ErrNoSpace},
	} {
		s.limit = c.limit
		if e := x.puts(c.change); e != c.want {
			t.Errorf("%d: %v, not %v", i, e, c.want)
		}
	}
	x.clears()
	if e := x.puts(change(4, "")); e != api.ErrNoSpace {
		t.Error(e)
	}
}

// P19.4: the last change of each key, by rising keys, in whatever order they came.
func TestChanges(t *testing.T) {
	x := over(t, holding(99, 5, 200, 255))
	x.puts(change(255, "a"), change(0, "b"), gone(200), gone(100))
	x.puts(change(9, "c"), change(0, "d"), api.Change{Key: 5, Gone: true, Body: []byte("body")})
	x.puts(gone(9), change(8, ""), change(7, ""), change(100, "e"))
	want := []api.Change{change(0, "d"), gone(5), change(7, ""), change(8, ""), change(100, "e"), gone(200), change(255, "a")}
	if l := x.c.Changes(); !same(l, want) {
		t.Errorf("%v, not %v", l, want)
	}
	for range 20 {
		if l := x.c.Changes(); !same(l, want) {
			t.Errorf("%v, not %v", l, want)
		}
	}
}

// P19.4: what the source has is what it has when it is asked.
func TestChangesKept(t *testing.T) {
	s := holding(9, 1, 2)
	x := over(t, s)
	x.puts(gone(1), change(3, "c"), gone(4))
	for _, c := range x.c.Changes() {
		delete(s.nodes, c.Key)
		if !c.Gone {
			s.nodes[c.Key] = c.Body
		}
	}
	x.holds()
	if l := x.c.Changes(); !same(l, []api.Change{change(3, "c")}) {
		t.Error(l)
	}
	x.clears()
	if x.c.Live() != lives(2, 3) {
		t.Error(x.c.Live())
	}
}

// some gives changes of which most are right.
func some(r *rand.Rand) []api.Change {
	var list []api.Change
	for range r.Intn(5) {
		c := api.Change{Key: r.Intn(16) * 17, Gone: r.Intn(3) == 0, Body: make([]byte, r.Intn(30))}
		r.Read(c.Body)
		switch r.Intn(60) {
		case 0:
			c.Key = odd[r.Intn(len(odd))]
		case 1:
			c.Body = make([]byte, 223+r.Intn(4))
		}
		list = append(list, c)
	}
	return list
}

// P19.1 to P19.4: random scripts, against the chapter's words.
func TestScripts(t *testing.T) {
	t.Parallel()
	for seed := range int64(60) {
		r := rand.New(rand.NewSource(seed))
		s := holding(3 + r.Intn(12))
		for range r.Intn(10) {
			s.nodes[r.Intn(16)*17] = []byte{byte(r.Intn(256))}
		}
		x := over(t, s)
		for range 80 {
			switch r.Intn(12) {
			case 0:
				x.clears()
			case 1:
				s.limit = r.Intn(16)
			case 2:
				s.fault = []api.Errno{api.OK, api.OK, api.ErrCorrupt, api.ErrDown}[r.Intn(4)]
			default:
				x.puts(some(r)...)
			}
			if t.Failed() {
				t.Fatalf("seed %d", seed)
			}
		}
	}
}

// P19.5: what is handed in stays, its spare room too, and isn't kept.
func TestArgumentsStay(t *testing.T) {
	x := over(t, holding(9, 1, 2))
	body := []byte("a body and spare room")
	list := []api.Change{{Key: 1, Body: body[:6]}, {Key: 3, Body: body[2:6]}, {Key: 2, Gone: true, Body: body[:4]}, change(9, "spare")}
	was := fmt.Sprint(body, list)
	x.puts(list[:3]...)
	if fmt.Sprint(body, list) != was {
		t.Errorf("it was changed: %v", list)
	}
	copy(body, "xxxxxxxxxxxxxxxxxxxxx")
	list[0], list[1], list[2] = gone(9), gone(1), change(3, "y")
	x.holds()
	if b, _ := x.c.Get(1); string(b) != "a body" {
		t.Errorf("it is kept: %q", b)
	}
}

// P19.5: answers are new memory, also of what the source hands out.
func TestAnswersOwnMemory(t *testing.T) {
	x := over(t, holding(9, 1, 2, 3))
	x.puts(change(1, "new"), change(4, "more"), gone(3), change(5, ""))
	for key := range 6 {
		one, _ := x.c.Get(key)
		two, _ := x.c.Get(key)
		kept := bytes.Clone(two)
		fill(one)
		if !bytes.Equal(two, kept) {
			t.Errorf("two answers of %d share memory", key)
		}
		x.holds()
	}
	if string(x.p.s.nodes[2]) != string([]byte{'k', 2, 0}) {
		t.Errorf("the source's node became %q", x.p.s.nodes[2])
	}
	one, two := x.c.Changes(), x.c.Changes()
	kept := fmt.Sprint(two)
	for i := range one {
		fill(one[i].Body)
	}
	one = one[:cap(one)]
	for i := range one {
		one[i] = change(99, "gone")
	}
	if fmt.Sprint(two) != kept {
		t.Errorf("two answers share memory: %v", two)
	}
	x.holds()
}

// fill writes over bytes, and over their spare room.
func fill(b []byte) {
	b = b[:cap(b)]
	for i := range b {
		b[i] = 0xa5
	}
}
