package handle_test

import (
	"fmt"
	"math"
	"math/rand"
	"slices"
	"testing"

	"keelson/api"
	"keelson/handle"
)

// odd are numbers at the edges of what an int holds, and of what a handle may be.
var odd = []int{math.MinInt, math.MinInt + 1, math.MinInt32, -7, -1, 0, 1, 2, 5, 6, 7, 8, 255, 1<<32 + 1, math.MaxInt32, math.MaxInt}

// plain is handles by the chapter's words: of each one its inode.
type plain map[int]int

func (p plain) open(inode int) (int, api.Errno) {
	if len(p) == 6 {
		return 0, api.ErrMany
	}
	for h := 1; ; h++ {
		if _, ok := p[h]; !ok {
			p[h] = inode
			return h, api.OK
		}
	}
}

func (p plain) close(h int) api.Errno {
	if _, ok := p[h]; !ok {
		return api.ErrHandle
	}
	delete(p, h)
	return api.OK
}

// pair is a Table, and what it should be.
type pair struct {
	t *testing.T
	h *handle.Table
	p plain
}

// fresh gives a pair without handles.
func fresh(t *testing.T) *pair { return &pair{t, handle.New(), plain{}} }

// opens tells unless Open answers as it should; its error.
func (x *pair) opens(inode int) api.Errno {
	x.t.Helper()
	h, e := x.h.Open(inode)
	if want, f := x.p.open(inode); h != want || e != f {
		x.t.Errorf("Open(%d): %d, %v, not %d, %v", inode, h, e, want, f)
	}
	x.holds()
	return e
}

// closes tells unless Close answers as it should; its error.
func (x *pair) closes(h int) api.Errno {
	x.t.Helper()
	e := x.h.Close(h)
	if f := x.p.close(h); e != f {
		x.t.Errorf("Close(%d): %v, not %v", h, e, f)
	}
	x.holds()
	return e
}

// holds tells unless all that is told is as it should be.
func (x *pair) holds() {
	x.t.Helper()
	for _, h := range append([]int{3, 4}, odd...) {
		inode, e := x.h.Get(h)
		want, ok := x.p[h]
		if inode != want || (e == api.OK) != ok || e != api.OK && e != api.ErrHandle {
			x.t.Errorf("Get(%d): %d, %v, not %d, %v", h, inode, e, want, ok)
		}
	}
	for _, inode := range append([]int{3, 4}, odd...) {
		used := false
		for _, other := range x.p {
			used = used || other == inode
		}
		if x.h.Uses(inode) != used {
			x.t.Errorf("Uses(%d): %v", inode, !used)
		}
	}
}

// P22.1: the chapter's example.
func TestExample(t *testing.T) {
	h := handle.New()
	for i, want := range []int{1, 2, 1} {
		if i == 2 && h.Close(1) != api.OK {
			t.Error("Close")
		}
		if got, e := h.Open(9); got != want || e != api.OK {
			t.Errorf("%d: %d, %v", i, got, e)
		}
	}
}

// P22.1, P22.2: a new Table has no handles.
func TestNew(t *testing.T) {
	x := fresh(t)
	x.holds()
	for _, h := range odd {
		if e := x.closes(h); e != api.ErrHandle {
			t.Errorf("%d: %v", h, e)
		}
	}
}

// P22.1: there are 6 handles at the most, of whatever inodes.
func TestMany(t *testing.T) {
	for _, inode := range odd {
		x := fresh(t)
		for i := range 9 {
			want := api.OK
			if i >= 6 {
				want = api.ErrMany
			}
			if e := x.opens(inode); e != want {
				t.Errorf("%d: %v", i, e)
			}
		}
		x.closes(4)
		x.opens(inode + 1)
		x.opens(inode + 2)
	}
}

// P22.1: the least number that is no handle is the next one, whichever are.
func TestLeast(t *testing.T) {
	for set := range 64 {
		x := fresh(t)
		for i := range 6 {
			x.opens(20 + i)
		}
		for i := range 6 {
			if set>>i&1 == 1 {
				x.closes(i + 1)
			}
		}
		for i := range 7 {
			x.opens(i)
		}
	}
}

// P22.1, P22.2: the inode 0 has handles as any other one.
func TestZero(t *testing.T) {
	x := fresh(t)
	if x.h.Uses(0) {
		t.Error("0 is used")
	}
	x.opens(0)
	x.opens(0)
	if n, e := x.h.Get(2); n != 0 || e != api.OK || !x.h.Uses(0) {
		t.Errorf("%d, %v", n, e)
	}
	x.closes(1)
	if !x.h.Uses(0) {
		t.Error("0 isn't used")
	}
	x.closes(2)
}

// P22.2: an inode of several handles is used till the last one is none.
func TestUses(t *testing.T) {
	x := fresh(t)
	for _, inode := range []int{5, 7, 5, 5, 7, 8} {
		x.opens(inode)
	}
	for i, h := range []int{3, 1, 4, 4, 2, 6, 5, 5} {
		want := api.OK
		if i == 3 || i == 7 {
			want = api.ErrHandle
		}
		if e := x.closes(h); e != want {
			t.Errorf("%d: %v", i, e)
		}
	}
}

// P22.1: each Table has handles of its own.
func TestOnesOwn(t *testing.T) {
	one, two := fresh(t), fresh(t)
	one.opens(5)
	two.holds()
	two.opens(7)
	two.opens(8)
	one.holds()
	one.closes(1)
	two.holds()
}

// script does a random script, and gives all that was answered.
func script(t *testing.T, seed int64) []string {
	r, x := rand.New(rand.NewSource(seed)), fresh(t)
	var all []string
	for range 300 {
		n := r.Intn(9)
		if r.Intn(8) == 0 {
			n = odd[r.Intn(len(odd))]
		}
		if r.Intn(2) == 0 {
			all = append(all, fmt.Sprint(x.closes(n)))
		} else {
			all = append(all, fmt.Sprint(x.opens(n)))
		}
		h, e := x.h.Get(n)
		all = append(all, fmt.Sprint(h, e, x.h.Uses(n)))
	}
	return all
}

// P1, P2, P22.1, P22.2: random scripts, against the chapter's words; no call panics, and two runs give the same answers.
func TestWild(t *testing.T) {
	for seed := range int64(40) {
		if !slices.Equal(script(t, seed), script(t, seed)) {
			t.Errorf("seed %d: two runs differ", seed)
		}
	}
}
