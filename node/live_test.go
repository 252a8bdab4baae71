package node_test

import (
	"slices"
	"testing"

	"keelson/api"
	"keelson/node"
)

// full has all keys.
func full() api.Live {
	var l api.Live
	for i := range l {
		l[i] = 255
	}
	return l
}

// plainHas tells by the chapter's words whether there is a node of a key that is one.
func plainHas(l api.Live, key int) bool {
	power := 1
	for range key % 8 {
		power *= 2
	}
	return int(l[key/8])/power%2 == 1
}

// P9.2: which bit of which byte tells of which key.
func TestBits(t *testing.T) {
	for key := range 256 {
		l := node.With(api.Live{}, key)
		for other := range 256 {
			if node.Has(l, other) != (other == key) || plainHas(l, other) != (other == key) {
				t.Fatalf("with %d: %v", key, l)
			}
		}
		if got := node.Keys(l); !slices.Equal(got, []int{key}) {
			t.Errorf("with %d: %v", key, got)
		}
		l = node.Without(full(), key)
		for other := range 256 {
			if node.Has(l, other) != (other != key) || plainHas(l, other) != (other != key) {
				t.Fatalf("without %d: %v", key, l)
			}
		}
		if len(node.Keys(l)) != 255 || slices.Contains(node.Keys(l), key) {
			t.Errorf("without %d: %v", key, node.Keys(l))
		}
	}
}

// P9.2: Keys rise, of any Live.
func TestKeys(t *testing.T) {
	if len(node.Keys(api.Live{})) != 0 {
		t.Error("keys of nothing")
	}
	for seed := range 200 {
		l := api.Live(sample(32, seed))
		var want []int
		for key := range 256 {
			if plainHas(l, key) {
				want = append(want, key)
			}
		}
		if got := node.Keys(l); !slices.Equal(got, want) {
			t.Errorf("%v: %v, not %v", l, got, want)
		}
	}
	if got := node.Keys(full()); len(got) != 256 || got[0] != 0 || got[255] != 255 || !slices.IsSorted(got) {
		t.Error(got)
	}
}

// P9.2: several keys, in any order, some twice, some there already, some not.
func TestWithAndWithout(t *testing.T) {
	l := node.With(api.Live{}, 200, 3, 3, 7, 8, 0, 255, 3)
	if got := node.Keys(l); !slices.Equal(got, []int{0, 3, 7, 8, 200, 255}) {
		t.Error(got)
	}
	if got := node.Keys(node.With(l, 3, 9)); !slices.Equal(got, []int{0, 3, 7, 8, 9, 200, 255}) {
		t.Error(got)
	}
	if got := node.Keys(node.Without(l, 9, 255, 3, 3, 10, 0)); !slices.Equal(got, []int{7, 8, 200}) {
		t.Error(got)
	}
	if node.With(l) != l || node.Without(l) != l || node.With(l, nil...) != l {
		t.Error("no keys change something")
	}
	for seed := range 100 {
		l, keys := api.Live(sample(32, seed)), sample(40, seed+1)
		var list []int
		for _, key := range keys {
			list = append(list, int(key))
		}
		with, without := node.With(l, list...), node.Without(l, list...)
		for key := range 256 {
			in := slices.Contains(list, key)
			if node.Has(with, key) != (in || plainHas(l, key)) || node.Has(without, key) != (!in && plainHas(l, key)) {
				t.Fatalf("the key %d of %v, %v", key, l, list)
			}
		}
	}
}

// P9.2: what is no key plays no part.
func TestNoKeys(t *testing.T) {
	for _, l := range []api.Live{{}, full(), api.Live(sample(32, 1))} {
		for _, key := range odd {
			if node.Has(l, key) {
				t.Errorf("there is a node of the key %d", key)
			}
			if node.With(l, key) != l || node.Without(l, key) != l {
				t.Errorf("the key %d changes something", key)
			}
			if node.With(l, key, 5, key) != node.With(l, 5) || node.Without(l, key, 5, key) != node.Without(l, 5) {
				t.Errorf("the key %d beside one changes something", key)
			}
		}
	}
}

// P9.3: what is handed in isn't changed, and answers share nothing.
func TestLiveOwnMemory(t *testing.T) {
	l := api.Live(sample(32, 1))
	was := l
	keys := []int{9, -1, 3, 256, 9, 77}
	kept := slices.Clone(keys)
	node.With(l, keys[:3]...)
	node.Without(l, keys[:3]...)
	one, two := node.Keys(l), node.Keys(l)
	for i := range one[:cap(one)] {
		one[:cap(one)][i] = -5
	}
	if l != was || !slices.Equal(keys, kept) || slices.Contains(two, -5) {
		t.Error("something was changed")
	}
}
