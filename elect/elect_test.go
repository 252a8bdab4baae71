package elect_test

import (
	"fmt"
	"math"
	"slices"
	"testing"

	"keelson/api"
	"keelson/elect"
)

// whole gives a chip that answers, and holds a store that is sound, of the view 4.
func whole(epoch uint64) api.Chip {
	return api.Chip{Here: true, Store: true, Sound: true, Last: api.Commit{Epoch: epoch, Sum: 9}, Seen: epoch, View: api.View{Number: 4, Members: 3, Base: 1}}
}

// hurt gives a chip that holds a store that isn't sound.
func hurt(epoch uint64) api.Chip {
	c := whole(epoch)
	c.Sound = false
	return c
}

// away gives a chip that doesn't answer, whatever it holds.
func away(c api.Chip) api.Chip {
	c.Here = false
	return c
}

// bare gives a chip that holds no store, whatever else is told of it.
func bare(c api.Chip) api.Chip {
	c.Store = false
	return c
}

// sum gives a chip with another sum.
func sum(c api.Chip, n uint32) api.Chip {
	c.Last.Sum = n
	return c
}

// live gives a chip with a node more.
func live(c api.Chip, byteOf int) api.Chip {
	c.Last.Live[byteOf] ^= 1
	return c
}

// tie gives the view 5 from the epoch 3 on.
func tie(members int) api.View {
	return api.View{Number: 5, Members: members, Base: 3}
}

// P13.1: the chip that is chosen, the members, and the fence.
func TestChoose(t *testing.T) {
	blank := api.Chip{Here: true}
	for i, c := range []struct {
		tie  api.View
		a, b api.Chip
		want api.Plan
	}{
		{tie(3), whole(7), whole(6), api.Plan{Chip: 0, Members: 1, Fence: true}}, // the chapter's example
		{tie(3), whole(6), whole(7), api.Plan{Chip: 1, Members: 2, Fence: true}},
		{tie(3), whole(7), whole(7), api.Plan{Chip: 0, Members: 3}},
		{tie(3), whole(3), whole(3), api.Plan{Chip: 0, Members: 3}},
		{tie(3), whole(7), sum(whole(7), 8), api.Plan{Chip: 0, Members: 1, Fence: true}},
		{tie(3), live(whole(7), 0), whole(7), api.Plan{Chip: 0, Members: 1, Fence: true}},
		{tie(3), whole(7), live(whole(7), 31), api.Plan{Chip: 0, Members: 1, Fence: true}},
		{tie(3), whole(math.MaxUint64 - 1), whole(math.MaxUint64), api.Plan{Chip: 1, Members: 2, Fence: true}},
		{tie(3), whole(3), whole(1 << 63), api.Plan{Chip: 1, Members: 2, Fence: true}},
		{tie(3), whole(3), whole(2), api.Plan{Chip: 0, Members: 1, Fence: true}},
		{tie(3), whole(2), whole(3), api.Plan{Chip: 1, Members: 2, Fence: true}},
		{tie(3), whole(7), hurt(9), api.Plan{Chip: 0, Members: 1, Fence: true}},
		{tie(3), hurt(7), whole(7), api.Plan{Chip: 1, Members: 2, Fence: true}},
		{tie(3), whole(7), blank, api.Plan{Chip: 0, Members: 1, Fence: true}},
		{tie(3), bare(whole(9)), whole(7), api.Plan{Chip: 1, Members: 2, Fence: true}},
		{tie(3), away(whole(9)), whole(7), api.Plan{Chip: 1, Members: 2, Fence: true}},
		{tie(3), whole(7), api.Chip{}, api.Plan{Chip: 0, Members: 1, Fence: true}},
		{tie(1), whole(7), whole(7), api.Plan{Chip: 0, Members: 1}},
		{tie(1), whole(3), whole(9), api.Plan{Chip: 0, Members: 1}},
		{tie(1), whole(3), hurt(9), api.Plan{Chip: 0, Members: 1}},
		{tie(2), whole(9), whole(3), api.Plan{Chip: 1, Members: 2}},
		{tie(2), away(whole(9)), whole(7), api.Plan{Chip: 1, Members: 2}},
		{api.View{Number: 1, Members: 3}, whole(0), whole(0), api.Plan{Chip: 0, Members: 3}},
		{api.View{Number: 1 << 63, Members: 3}, whole(1), whole(1), api.Plan{Chip: 0, Members: 3}},
		{api.View{Number: 9, Members: 2, Base: math.MaxUint64}, api.Chip{}, whole(math.MaxUint64), api.Plan{Chip: 1, Members: 2}},
	} {
		if got, e := elect.Choose(c.tie, c.a, c.b); got != c.want || e != api.OK {
			t.Errorf("%d: %v, %v, not %v", i, got, e, c.want)
		}
	}
}

// P13.1: the errors, and which one comes ahead of which.
func TestChooseErrors(t *testing.T) {
	blank := api.Chip{Here: true}
	for i, c := range []struct {
		tie  api.View
		a, b api.Chip
		want api.Errno
	}{
		{api.View{}, whole(7), whole(7), api.ErrNoReplica},
		{api.View{Number: 0, Members: 3}, whole(7), whole(7), api.ErrNoReplica},
		{api.View{Number: 1<<63 + 1, Members: 3}, whole(7), whole(7), api.ErrNoReplica},
		{tie(0), whole(7), hurt(7), api.ErrNoReplica},
		{tie(4), whole(7), whole(7), api.ErrNoReplica},
		{tie(7), whole(7), whole(7), api.ErrNoReplica},
		{tie(-1), hurt(7), whole(7), api.ErrNoReplica},
		{tie(3), api.Chip{}, api.Chip{}, api.ErrNoReplica},
		{tie(3), blank, blank, api.ErrNoReplica},
		{tie(3), away(whole(7)), bare(whole(7)), api.ErrNoReplica},
		{tie(3), away(hurt(7)), bare(hurt(7)), api.ErrNoReplica},
		{tie(1), api.Chip{}, whole(9), api.ErrStale},
		{tie(1), blank, whole(9), api.ErrStale},
		{tie(2), whole(9), away(whole(9)), api.ErrStale},
		{tie(3), whole(2), whole(2), api.ErrStale},
		{tie(3), whole(2), away(hurt(9)), api.ErrStale},
		{tie(3), bare(hurt(9)), whole(0), api.ErrStale},
		{tie(1), whole(2), hurt(9), api.ErrStale},
		{tie(2), hurt(9), whole(2), api.ErrStale},
		{tie(1), blank, hurt(9), api.ErrStale},
		{tie(3), hurt(7), blank, api.ErrCorrupt},
		{tie(3), api.Chip{}, hurt(7), api.ErrCorrupt},
		{tie(3), hurt(0), whole(2), api.ErrCorrupt},
		{tie(3), whole(2), hurt(0), api.ErrCorrupt},
		{tie(1), hurt(7), whole(9), api.ErrCorrupt},
		{tie(2), whole(9), hurt(7), api.ErrCorrupt},
		{tie(3), hurt(7), hurt(7), api.ErrCorrupt},
	} {
		if got, e := elect.Choose(c.tie, c.a, c.b); got != (api.Plan{}) || e != c.want {
			t.Errorf("%d: %v, %v, not %v", i, got, e, c.want)
		}
	}
}

// P13.1: all ties with all pairs of chips.
func TestChooseAll(t *testing.T) {
	chips := someChips()
	for _, v := range someTies() {
		for _, a := range chips {
			for _, b := range chips {
				want, wantE := plainChoose(v, a, b)
				if got, e := elect.Choose(v, a, b); got != want || e != wantE {
					t.Fatalf("%v, %v, %v: %v, %v, not %v, %v", v, a, b, got, e, want, wantE)
				}
			}
		}
	}
}

// P13.1: a chip that isn't told is not Here, and further ones play no part.
func TestChooseFewOrMany(t *testing.T) {
	chips := someChips()
	for _, v := range someTies() {
		if got, e := elect.Choose(v); got != (api.Plan{}) || e != api.ErrNoReplica {
			t.Fatalf("%v, no chips: %v, %v", v, got, e)
		}
		for _, a := range chips {
			want, wantE := plainChoose(v, a, api.Chip{})
			if got, e := elect.Choose(v, a); got != want || e != wantE {
				t.Fatalf("%v, %v: %v, %v, not %v, %v", v, a, got, e, want, wantE)
			}
		}
	}
	for _, v := range []api.View{tie(1), tie(2), tie(3)} {
		for _, a := range []api.Chip{{}, hurt(4), whole(2), whole(4)} {
			for _, b := range []api.Chip{{}, hurt(4), whole(2), whole(4)} {
				want, wantE := plainChoose(v, a, b)
				if got, e := elect.Choose(v, a, b, whole(9), hurt(3), whole(4)); got != want || e != wantE {
					t.Fatalf("%v, %v, %v and three more: %v, %v, not %v, %v", v, a, b, got, e, want, wantE)
				}
			}
		}
	}
}

// P13.2: what Suffix says yes to, and each thing that lets it say no.
func TestSuffix(t *testing.T) {
	back := func(change func(tie *api.View, chip, other *api.Chip)) bool {
		v, chip, other := tie(1), whole(3), whole(9)
		change(&v, &chip, &other)
		return elect.Suffix(v, chip, other)
	}
	epoch := func(c *api.Chip, n uint64) { c.Last.Epoch, c.Seen = n, n }
	for i, c := range []struct {
		want   bool
		change func(tie *api.View, chip, other *api.Chip)
	}{
		{true, func(v *api.View, chip, other *api.Chip) {}},
		{true, func(v *api.View, chip, other *api.Chip) { v.Members = 2 }},
		{true, func(v *api.View, chip, other *api.Chip) { epoch(chip, 1) }},
		{true, func(v *api.View, chip, other *api.Chip) { epoch(other, 3) }},
		{true, func(v *api.View, chip, other *api.Chip) { *other = away(bare(hurt(3))) }},
		{true, func(v *api.View, chip, other *api.Chip) { other.View.Number = 0 }},
		{true, func(v *api.View, chip, other *api.Chip) { chip.View = api.View{Number: 4} }},
		{true, func(v *api.View, chip, other *api.Chip) { chip.View = api.View{Number: 4, Members: 1, Base: 99} }},
		{true, func(v *api.View, chip, other *api.Chip) { chip.Last.Sum, chip.Last.Live[7] = 1, 255 }},
		{true, func(v *api.View, chip, other *api.Chip) {
			v.Number, chip.View.Number = 1<<63, 1<<63-1
			v.Base = math.MaxUint64
			epoch(chip, math.MaxUint64)
			epoch(other, math.MaxUint64)
		}},
		{true, func(v *api.View, chip, other *api.Chip) { v.Number, chip.View.Number = 0, math.MaxUint64 }},
		{true, func(v *api.View, chip, other *api.Chip) { v.Number, chip.View = 1, api.View{} }},
		{false, func(v *api.View, chip, other *api.Chip) { chip.Here = false }},
		{false, func(v *api.View, chip, other *api.Chip) { chip.Store = false }},
		{false, func(v *api.View, chip, other *api.Chip) { chip.Sound = false }},
		{false, func(v *api.View, chip, other *api.Chip) { *chip = api.Chip{} }},
		{false, func(v *api.View, chip, other *api.Chip) { chip.Seen = 4 }},
		{false, func(v *api.View, chip, other *api.Chip) { chip.Seen = 2 }},
		{false, func(v *api.View, chip, other *api.Chip) { epoch(chip, 0) }},
		{false, func(v *api.View, chip, other *api.Chip) { epoch(chip, 4) }},
		{false, func(v *api.View, chip, other *api.Chip) { epoch(chip, math.MaxUint64) }},
		{false, func(v *api.View, chip, other *api.Chip) { v.Base = 2 }},
		{false, func(v *api.View, chip, other *api.Chip) { v.Base = 10 }},
		{false, func(v *api.View, chip, other *api.Chip) { chip.View.Number = 3 }},
		{false, func(v *api.View, chip, other *api.Chip) { chip.View.Number = 5 }},
		{false, func(v *api.View, chip, other *api.Chip) { chip.View.Number = 6 }},
		{false, func(v *api.View, chip, other *api.Chip) { chip.View = api.View{} }},
		{false, func(v *api.View, chip, other *api.Chip) { v.Number, chip.View.Number = 0, 1 }},
		{false, func(v *api.View, chip, other *api.Chip) { v.Members = 3 }},
		{false, func(v *api.View, chip, other *api.Chip) { v.Members = 7 }},
		{false, func(v *api.View, chip, other *api.Chip) { epoch(other, 2) }},
		{false, func(v *api.View, chip, other *api.Chip) { *other = api.Chip{Seen: 9} }},
	} {
		if got := back(c.change); got != c.want {
			t.Errorf("%d: %v", i, got)
		}
	}
}

// P13.2: all ties with all chips of many views and greatest epochs.
func TestSuffixAll(t *testing.T) {
	for _, v := range someTies() {
		for _, chip := range someChips() {
			for _, number := range []uint64{0, 1, 4, 5, 6, 1<<63 - 1, 1 << 63, math.MaxUint64 - 1, math.MaxUint64} {
				for _, more := range []uint64{0, 1, math.MaxUint64} {
					c := chip
					c.View, c.Seen = api.View{Number: number, Members: 3, Base: 1}, chip.Last.Epoch+more
					for _, last := range lasts() {
						other := api.Chip{Last: last}
						if got := elect.Suffix(v, c, other); got != plainSuffix(v, c, other) {
							t.Fatalf("%v, %v, %v: %v", v, c, other, got)
						}
					}
				}
			}
		}
	}
}

// Rule 5: the chips that are handed in aren't changed, their spare room neither.
func TestArgumentsStay(t *testing.T) {
	all := []api.Chip{whole(4), hurt(5), whole(6), {}, whole(9)}
	was := slices.Clone(all)
	for n := range all {
		elect.Choose(tie(3), all[:n]...)
	}
	if !slices.Equal(all, was) {
		t.Error(all)
	}
}

// wild calls everything with arguments of all kinds, and gives all that was answered.
func wild() []string {
	var all []string
	chips := someChips()
	for i, v := range someTies() {
		a, b := chips[i%len(chips)], chips[i*7%len(chips)]
		for n := range 4 {
			p, e := elect.Choose(v, []api.Chip{a, b, b, a}[:n]...)
			all = append(all, fmt.Sprint(p, e))
		}
		all = append(all, fmt.Sprint(elect.Suffix(v, a, b), elect.Suffix(v, b, a)))
	}
	return all
}

// P1, P2: no call panics, whatever it is given, and two runs of the same calls give the same answers.
func TestWild(t *testing.T) {
	if !slices.Equal(wild(), wild()) {
		t.Error("two runs give different answers")
	}
}
