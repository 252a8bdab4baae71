package plain_test

import (
	"maps"
	"math/rand"
	"testing"

	"keelson/api"
	"keelson/plain"
)

func many() int { return 200 }

// What is kept is what is read, by whatever operations it came to be; a tree of that is the same one, without handles.
func TestRead(t *testing.T) {
	for seed := range int64(50) {
		r := rand.New(rand.NewSource(seed))
		x := plain.New(plain.Empty(), many)
		for range 200 {
			x.Do(x.Some(r.Intn))
		}
		k := x.Kept()
		y := plain.New(k, many)
		if got := plain.Read(y.Do); !maps.Equal(got, k) || !got.In(plain.Empty(), k) || y.Nodes() != x.Nodes() || len(y.Paths()) != len(k) {
			t.Errorf("seed %d: %v, not %v", seed, got, k)
		}
		y.Walk(func(o api.Op) api.Answer {
			a := y.Do(o)
			if a.Code != api.OK && a.Code != api.ErrIsDir && a.Code != api.ErrNotDir {
				t.Errorf("seed %d: %v: %v", seed, o, a)
			}
			return a
		})
	}
}

// What can't be read is no tree that was kept.
func TestReadErrors(t *testing.T) {
	for kind := api.OpOpen; kind <= api.OpStat; kind++ {
		x := plain.New(plain.Empty(), many)
		x.Do(api.Op{Kind: api.OpCreate, Path: "/f"})
		got := plain.Read(func(o api.Op) api.Answer {
			if o.Kind == kind {
				return api.Answer{Code: api.ErrCorrupt}
			}
			return x.Do(o)
		})
		asked := kind == api.OpOpen || kind == api.OpClose || kind == api.OpRead || kind == api.OpList || kind == api.OpStat
		if got.In(x.Kept()) == asked {
			t.Errorf("without the operation %d: %v", kind, got)
		}
	}
}

// The chapters' limits.
func TestLimits(t *testing.T) {
	x := plain.New(plain.Empty(), func() int { return 3 })
	for _, s := range []struct {
		o api.Op
		e api.Errno
	}{
		{api.Op{Kind: api.OpCreate, Path: "/f"}, api.OK},
		{api.Op{Kind: api.OpOpen, Path: "/f"}, api.OK},
		{api.Op{Kind: api.OpWrite, H: 1, Off: 768, Data: []byte("x")}, api.ErrBig},
		{api.Op{Kind: api.OpWrite, H: 1, Data: plain.Text(129, 1)}, api.ErrNoSpace},
		{api.Op{Kind: api.OpWrite, H: 1, Data: plain.Text(128, 1)}, api.OK},
		{api.Op{Kind: api.OpMkdir, Path: "/d"}, api.ErrNoSpace},
		{api.Op{Kind: api.OpUnlink, Path: "/f"}, api.ErrBusy},
		{api.Op{Kind: api.OpClose, H: 1}, api.OK},
		{api.Op{Kind: api.OpUnlink, Path: "/f"}, api.OK},
		{api.Op{Kind: api.OpRename, Path: "/f", To: "/f/g"}, api.ErrNone},
		{api.Op{Kind: api.OpSync}, api.OK},
	} {
		if a := x.Do(s.o); a.Code != s.e {
			t.Errorf("%v: %v, not %v", s.o, a.Code, s.e)
		}
	}
}
