package world_test

import (
	"fmt"
	"math/rand"
	"slices"
	"strings"
	"testing"

	"keelson/api"
	"keelson/plain"
	"keelson/world"
)

// wild is a world to which anything is done.
type wild struct {
	rand *rand.Rand
	w    *world.World
	told []string
	more []string // what was told beside errors, and mounted without power
}

func newWild(seed int64) *wild {
	r := rand.New(rand.NewSource(seed))
	w, _ := world.New(16 + r.Intn(4))
	return &wild{rand: r, w: w}
}

// number gives a number that mostly means something.
func (x *wild) number(most int) int {
	if x.rand.Intn(12) == 0 {
		return odd[x.rand.Intn(len(odd))]
	}
	return x.rand.Intn(most)
}

// path gives a path of a few short names, or whatever else.
func (x *wild) path() string {
	if list := plain.WrongPaths(); x.rand.Intn(12) == 0 {
		return list[x.rand.Intn(len(list))]
	}
	return "/" + strings.Join([]string{"a", "b", "c"}[:x.rand.Intn(4)], "/")
}

// event gives any event.
func (x *wild) event() api.Event {
	e := api.Event{Kind: x.number(13), Chip: x.number(2), N: x.number(20), Keep: x.number(300)}
	switch x.rand.Intn(6) {
	case 0:
		e.Kind, e.N = api.EvMount, 0
	case 1:
		e.Kind = api.EvIn
	case 2, 3:
		e.Kind = api.EvOp
	}
	if e.Kind == api.EvFlip {
		e.N = x.number(160)
	}
	e.Op = api.Op{Kind: x.number(15), Path: x.path(), To: x.path(), H: x.number(4), Off: x.number(300), N: x.number(300), Data: plain.Text(x.rand.Intn(400), x.rand.Intn(99))}
	return e
}

func (x *wild) step() {
	e := x.event()
	for range 1 + x.rand.Intn(10)*x.rand.Intn(2) {
		a := x.w.Do(e)
		if a.Code != api.OK && !plain.Same(a, api.Answer{Code: a.Code}) || e.Kind != api.EvOp && !plain.Same(a, api.Answer{Code: a.Code}) || x.w.Off() && x.w.Mounted() {
			x.more = append(x.more, fmt.Sprint(e, a))
		}
		x.told = append(x.told, fmt.Sprint(e, a, x.w.Mounted(), x.w.Off(), x.w.View(), x.w.Limit(), x.w.Steps(), x.w.Count(0), x.w.Count(1), x.w.Count(e.Chip)))
	}
}

// P1, P2, P24.2: whatever happens, each call ends, none panics, beside an error, and of what is no operation, there is no more than a code, and two runs give the same answers and do the same acts.
func TestWild(t *testing.T) {
	t.Parallel()
	for seed := range int64(80) {
		one, two := newWild(seed), newWild(seed)
		for range 250 {
			one.step()
			two.step()
		}
		if !slices.Equal(one.told, two.told) {
			t.Errorf("seed %d: two runs differ", seed)
		}
		if len(one.more) > 0 {
			t.Errorf("seed %d: more than an error, or mounted without power: %v", seed, one.more)
		}
	}
}

// P1: paths and bytes may be of any length.
func TestLong(t *testing.T) {
	x := begun(t, "long", 16)
	x.grows()
	data := make([]byte, 1<<22)
	for _, path := range []string{strings.Repeat("/a", 1<<20), strings.Repeat("/", 1<<22), "/" + strings.Repeat("a", 1<<22), strings.Repeat("\xff", 1<<22)} {
		for kind := api.OpCreate; kind < api.OpSync; kind++ {
			o := api.Op{Kind: kind, Path: path, To: path, H: 1, N: 1 << 40, Data: data}
			if a, want := x.w.Do(api.Event{Kind: api.EvOp, Op: o}), x.tree.Do(o); !plain.Same(a, want) {
				t.Errorf("%d: %v, not %v", kind, a.Code, want.Code)
			}
		}
	}
	x.walks()
}
