package wear_test

import (
	"fmt"
	"math"
	"math/big"
	"math/rand"
	"slices"
	"testing"

	"keelson/api"
	"keelson/wear"
)

// load gives a load.
func load(seq, worn uint64, block, counts int) wear.Load {
	return wear.Load{Segment: api.Segment{Seq: seq, Wear: worn, Block: block}, Counts: counts}
}

// ahead tells by the chapter's words whether a is emptied rather than b.
func ahead(a, b wear.Load) bool {
	if a.Counts != b.Counts {
		return a.Counts < b.Counts
	}
	if a.Segment.Wear != b.Segment.Wear {
		return a.Segment.Wear < b.Segment.Wear
	}
	return a.Segment.Block < b.Segment.Block
}

// plainVictim is P10.1, word by word.
func plainVictim(list []wear.Load) (int, bool) {
	newest := -1
	for i, l := range list {
		if newest < 0 || l.Segment.Seq > list[newest].Segment.Seq {
			newest = i
		}
	}
	found := -1
	for i, l := range list {
		if i != newest && (found < 0 || ahead(l, list[found])) {
			found = i
		}
	}
	if found < 0 {
		return 0, false
	}
	return found, true
}

// P10.1: the chapter's example, ties of each kind, and too few loads.
func TestVictim(t *testing.T) {
	for i, c := range []struct {
		list []wear.Load
		want int
		ok   bool
	}{
		{nil, 0, false},
		{[]wear.Load{load(0, 0, 0, 0)}, 0, false},
		{[]wear.Load{load(1, 0, 0, 3), load(2, 0, 1, 1), load(3, 0, 2, 1)}, 1, true},
		{[]wear.Load{load(9, 0, 0, 0), load(2, 5, 1, 6)}, 1, true},
		{[]wear.Load{load(2, 5, 1, 6), load(9, 0, 0, 0)}, 0, true},
		{[]wear.Load{load(9, 0, 0, 0), load(9, 0, 0, 0)}, 1, true},
		{[]wear.Load{load(1, 0, 0, 4), load(9, 0, 0, 0), load(9, 0, 0, 1)}, 2, true},
		{[]wear.Load{load(1, 7, 1, 2), load(2, 6, 9, 2), load(3, 6, 8, 2), load(4, 0, 0, 0)}, 2, true},
		{[]wear.Load{load(1, 6, 8, 2), load(2, 6, 8, 2), load(4, 0, 0, 0)}, 0, true},
		{[]wear.Load{load(math.MaxUint64, 0, 0, 0), load(0, math.MaxUint64, math.MaxInt, math.MaxInt)}, 1, true},
		{[]wear.Load{load(1, math.MaxUint64, 0, 0), load(2, 0, 0, 0), load(3, 0, 0, 0)}, 1, true},
		{[]wear.Load{load(1, 0, math.MaxInt, 0), load(2, 0, math.MinInt, 0), load(3, 0, 0, 0)}, 1, true},
		{[]wear.Load{load(1, 0, 0, math.MaxInt), load(2, 9, 9, math.MinInt), load(3, 0, 0, 0)}, 1, true},
	} {
		if got, ok := wear.Victim(c.list...); got != c.want || ok != c.ok {
			t.Errorf("%d: %d, %v, not %d, %v", i, got, ok, c.want, c.ok)
		}
	}
}

// some gives n loads of which many are alike.
func some(rng *rand.Rand, n, kinds int) []wear.Load {
	var list []wear.Load
	for range n {
		list = append(list, load(uint64(rng.Intn(kinds)), uint64(rng.Intn(kinds)), rng.Intn(kinds)-1, rng.Intn(kinds)-1))
	}
	return list
}

// P10.1, P10.2: many lists, of which loads are alike or not.
func TestLists(t *testing.T) {
	rng := rand.New(rand.NewSource(1))
	for range 20000 {
		list := some(rng, rng.Intn(9), 1+rng.Intn(6))
		got, ok := wear.Victim(list...)
		if want, wantOK := plainVictim(list); got != want || ok != wantOK {
			t.Fatalf("%v: %d, %v, not %d, %v", list, got, ok, want, wantOK)
		}
		low, high := uint64(math.MaxUint64), uint64(0)
		for _, l := range list {
			low, high = min(low, l.Segment.Wear), max(high, l.Segment.Wear)
		}
		want := high - low
		if len(list) == 0 {
			want = 0
		}
		if got := wear.Gap(list...); got != want {
			t.Fatalf("%v: the gap %d, not %d", list, got, want)
		}
	}
}

// P10.2: Room of any number, against numbers that have no end.
func TestRoom(t *testing.T) {
	list := []int{-math.MaxInt / 3, math.MinInt/3 + 1, math.MaxInt / 2, math.MaxInt/3*2 + 9, math.MinInt32, math.MaxInt32}
	for i := range 100 {
		list = append(list, i-50, math.MinInt+i, math.MaxInt-i, math.MaxInt/3-50+i, math.MinInt/3-50+i, math.MinInt/3*2-50+i, math.MaxInt/3*2-50+i)
	}
	for _, blocks := range list {
		want := new(big.Int).Mul(big.NewInt(3), new(big.Int).Sub(big.NewInt(int64(blocks)), big.NewInt(3)))
		want.Sub(want, big.NewInt(2))
		if want.Sign() < 0 {
			want.SetInt64(0)
		}
		if want.Cmp(big.NewInt(math.MaxInt)) > 0 {
			want.SetInt64(math.MaxInt)
		}
		if got := wear.Room(blocks); want.Cmp(big.NewInt(int64(got))) != 0 {
			t.Errorf("%d blocks: %d, not %v", blocks, got, want)
		}
	}
	for blocks, want := range map[int]int{3: 0, 4: 1, 5: 4, 10: 19, 14: 31, 34: 91} {
		if got := wear.Room(blocks); got != want {
			t.Errorf("%d blocks: %d, not %d", blocks, got, want)
		}
	}
}

// P10.2: Gap of none, of one, and of the edges.
func TestGap(t *testing.T) {
	for _, c := range []struct {
		list []uint64
		want uint64
	}{
		{nil, 0}, {[]uint64{0}, 0}, {[]uint64{math.MaxUint64}, 0}, {[]uint64{7, 7, 7}, 0},
		{[]uint64{5, 9, 7}, 4}, {[]uint64{9, 5, 7}, 4}, {[]uint64{7, 9, 5}, 4}, {[]uint64{0, math.MaxUint64}, math.MaxUint64},
		{[]uint64{math.MaxUint64, 0, 1}, math.MaxUint64}, {[]uint64{1 << 63, 1<<63 - 1}, 1},
	} {
		var list []wear.Load
		for i, worn := range c.list {
			list = append(list, load(uint64(i), worn, i, 0))
		}
		if got := wear.Gap(list...); got != c.want {
			t.Errorf("%v: %d, not %d", c.list, got, c.want)
		}
	}
}

// P10.3: what is handed in isn't changed, its spare room neither.
func TestArgumentsStay(t *testing.T) {
	whole := some(rand.New(rand.NewSource(2)), 9, 4)
	for i := range whole {
		whole[i].Segment.Records = []api.Place{{Block: i, Page: 2}, {Block: i, Page: 3}}[:1]
	}
	told := func() string {
		s := ""
		for _, l := range whole {
			s += fmt.Sprint(l, l.Segment.Records[:2])
		}
		return s
	}
	was := told()
	wear.Victim(whole[:5]...)
	wear.Gap(whole[:5]...)
	if told() != was {
		t.Error("the loads were changed")
	}
}

// wild calls everything with arguments of all kinds, and gives all that was answered.
func wild() []string {
	var all []string
	numbers := []int{math.MinInt, math.MinInt32, -1, 0, 1, 3, 4, 40, math.MaxInt32, math.MaxInt}
	for _, a := range numbers {
		all = append(all, fmt.Sprint(wear.Room(a)))
		for _, b := range numbers {
			list := []wear.Load{load(uint64(a), uint64(b), a, b), load(uint64(b), uint64(a), b, a), load(uint64(a), uint64(a), b, b), {}}
			i, ok := wear.Victim(list...)
			all = append(all, fmt.Sprint(i, ok, wear.Gap(list...)))
		}
	}
	return all
}

// P1, P2: no call panics, whatever it is given, and two runs of the same calls give the same answers.
func TestWild(t *testing.T) {
	if !slices.Equal(wild(), wild()) {
		t.Error("two runs give different answers")
	}
}
