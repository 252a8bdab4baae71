package view_test

import (
	"fmt"
	"math"
	"slices"
	"testing"

	"keelson/api"
	"keelson/view"
)

// numbers are numbers of views, those at the edges among them.
func numbers() []uint64 {
	return []uint64{0, 1, 2, 5, 255, 256, 1 << 32, 1<<62 + 9, 1<<63 - 1, 1 << 63, 1<<63 + 1, math.MaxUint64 - 1, math.MaxUint64}
}

// someMembers are members of views, most of which aren't right.
func someMembers() []int {
	return []int{0, 1, 2, 3, 4, 5, 6, 7, 8, 257, 258, 259, -1, -2, -3, -4, math.MaxInt32, math.MinInt32, math.MaxInt, math.MinInt}
}

// odd are numbers that no chip is.
func odd() []int {
	return []int{2, 3, 4, 31, 32, 33, 63, 64, 65, 127, 128, 129, 256, -1, -2, -63, -64, -65, math.MaxInt32, math.MinInt32, math.MaxInt, math.MaxInt - 1, math.MinInt, math.MinInt + 1}
}

// someViews are views of all kinds, right ones and others.
func someViews() []api.View {
	var list []api.View
	for _, number := range numbers() {
		for _, members := range someMembers() {
			for _, base := range []uint64{0, 7, math.MaxUint64} {
				list = append(list, api.View{Number: number, Members: members, Base: base})
			}
		}
	}
	return list
}

// plainRight tells by the chapter's words whether a view is right.
func plainRight(v api.View) bool {
	if v.Number == 0 || v.Number > 9223372036854775808 {
		return false
	}
	return v.Members == 1 || v.Members == 2 || v.Members == 3
}

// plainHas tells by the chapter's words whether a chip is a member.
func plainHas(v api.View, chip int) bool {
	switch chip {
	case 0:
		return v.Members%2 != 0
	case 1:
		return v.Members>>1%2 != 0
	}
	return false
}

// P12.1: a new tie knows none.
func TestNewTie(t *testing.T) {
	if v := view.NewTie().Get(); v != (api.View{}) {
		t.Error(v)
	}
}

// P12.1: what a tie that knows none takes, which is what is right, and nothing else.
func TestSetRight(t *testing.T) {
	for _, v := range someViews() {
		x := view.NewTie()
		want, known := api.ErrArg, api.View{}
		if plainRight(v) {
			want, known = api.OK, v
		}
		if e := x.Set(v); e != want || x.Get() != known {
			t.Errorf("%v: %v, %v, not %v, %v", v, e, x.Get(), want, known)
		}
	}
}

// P12.1: what a tie that knows a view takes: only greater numbers, of whatever members and base.
func TestSetRises(t *testing.T) {
	for _, first := range someViews() {
		if !plainRight(first) {
			continue
		}
		for _, v := range someViews() {
			x := view.NewTie()
			x.Set(first)
			want, known := api.ErrArg, first
			if plainRight(v) && v.Number > first.Number {
				want, known = api.OK, v
			}
			if e := x.Set(v); e != want || x.Get() != known {
				t.Fatalf("%v behind %v: %v, %v, not %v, %v", v, first, e, x.Get(), want, known)
			}
		}
	}
}

// P12.1: a tie through many views: each is held against the last one that was taken.
func TestSetOften(t *testing.T) {
	x := view.NewTie()
	known := api.View{}
	for i, c := range []struct {
		v    api.View
		want api.Errno
	}{
		{api.View{Number: 0, Members: 3}, api.ErrArg},
		{api.View{Number: 1, Members: 3, Base: 1}, api.OK},
		{api.View{Number: 1, Members: 3, Base: 1}, api.ErrArg},
		{api.View{Number: 1, Members: 1, Base: 9}, api.ErrArg},
		{api.View{Number: 2, Members: 2, Base: 0}, api.OK},
		{api.View{Number: 9, Members: 0, Base: 9}, api.ErrArg},
		{api.View{Number: 9, Members: 4, Base: 9}, api.ErrArg},
		{api.View{Number: 3, Members: 1, Base: 9}, api.OK},
		{api.View{Number: 700, Members: 3, Base: 5}, api.OK},
		{api.View{Number: 699, Members: 3, Base: 50}, api.ErrArg},
		{api.View{Number: 1<<63 + 1, Members: 3}, api.ErrArg},
		{api.View{Number: 1 << 63, Members: 1}, api.OK},
		{api.View{Number: 1 << 63, Members: 2}, api.ErrArg},
		{api.View{Number: math.MaxUint64, Members: 1}, api.ErrArg},
		{api.View{}, api.ErrArg},
	} {
		if c.want == api.OK {
			known = c.v
		}
		if e := x.Set(c.v); e != c.want || x.Get() != known || x.Get() != known {
			t.Errorf("%d: %v, %v, not %v, %v", i, e, x.Get(), c.want, known)
		}
	}
}

// P12.1, rule 6: each tie is by itself.
func TestTiesApart(t *testing.T) {
	a, b := view.NewTie(), view.NewTie()
	v := api.View{Number: 4, Members: 1, Base: 2}
	if a == b || a.Set(v) != api.OK || b.Get() != (api.View{}) || view.NewTie().Get() != (api.View{}) {
		t.Error("a tie knows another one's view")
	}
	w := api.View{Number: 1, Members: 2}
	if b.Set(w) != api.OK || a.Get() != v || b.Get() != w {
		t.Error("a tie is held against another one's view")
	}
}

// P12.2: Has of no chips, of one and of several, of whatever members.
func TestHas(t *testing.T) {
	chips := append(odd(), 0, 1)
	for _, v := range someViews() {
		if !view.Has(v) || !view.Has(v, nil...) {
			t.Fatalf("%v: false of no chips", v)
		}
		for _, a := range chips {
			if got := view.Has(v, a); got != plainHas(v, a) {
				t.Fatalf("%v has %d: %v", v, a, got)
			}
			for _, b := range []int{0, 1, 2, -1} {
				if got := view.Has(v, a, b); got != (plainHas(v, a) && plainHas(v, b)) {
					t.Fatalf("%v has %d and %d: %v", v, a, b, got)
				}
			}
		}
	}
}

// P12.2: Has of a view with both: all of many chips must be, wherever the one stands that isn't.
func TestHasMany(t *testing.T) {
	both, none := api.View{Number: 1, Members: api.Both}, []int{0, 1, 1, 0, 0, 1, 0}
	if !view.Has(both, none...) {
		t.Error("false of members")
	}
	for place := range none {
		for _, chip := range odd() {
			chips := slices.Clone(none)
			chips[place] = chip
			if view.Has(both, chips...) {
				t.Errorf("true of %v", chips)
			}
		}
	}
	for chip, members := range []int{2, 1} {
		if v := (api.View{Number: 1, Members: members}); view.Has(v, 1-chip, chip) || view.Has(v, chip, 1-chip) || !view.Has(v, 1-chip, 1-chip) {
			t.Errorf("the chips of %v", v)
		}
	}
}

// P12.2: Shrink of all kinds of views, to all kinds of chips.
func TestShrink(t *testing.T) {
	chips := append(odd(), 0, 1)
	for _, v := range someViews() {
		for _, chip := range chips {
			for _, base := range []uint64{0, 3, 1 << 63, math.MaxUint64} {
				want, wantE := api.View{}, api.ErrArg
				if plainRight(v) && v.Number != 1<<63 && plainHas(v, chip) {
					want, wantE = api.View{Number: v.Number + 1, Members: []int{1, 2}[chip], Base: base}, api.OK
				}
				if got, e := view.Shrink(v, chip, base); got != want || e != wantE {
					t.Fatalf("%v to %d with %d: %v, %v, not %v, %v", v, chip, base, got, e, want, wantE)
				}
			}
		}
	}
}

// P12.2: Grow of all kinds of views.
func TestGrow(t *testing.T) {
	for _, v := range someViews() {
		for _, base := range []uint64{0, 3, 1 << 63, math.MaxUint64} {
			want, wantE := api.View{}, api.ErrArg
			if plainRight(v) && v.Number != 1<<63 && v.Members != 3 {
				want, wantE = api.View{Number: v.Number + 1, Members: 3, Base: base}, api.OK
			}
			if got, e := view.Grow(v, base); got != want || e != wantE {
				t.Fatalf("%v with %d: %v, %v, not %v, %v", v, base, got, e, want, wantE)
			}
		}
	}
}

// P12.1, P12.2: the chapter's example, and the last number that there is, and what a tie takes of them.
func TestBehind(t *testing.T) {
	v := api.View{Number: 4, Members: 3, Base: 1}
	v, e := view.Shrink(v, 1, 9)
	if v != (api.View{Number: 5, Members: 2, Base: 9}) || e != api.OK {
		t.Errorf("%v, %v", v, e)
	}
	v, e = view.Grow(v, 11)
	if v != (api.View{Number: 6, Members: 3, Base: 11}) || e != api.OK {
		t.Errorf("%v, %v", v, e)
	}
	x := view.NewTie()
	last, e := view.Shrink(api.View{Number: 1<<63 - 1, Members: 3}, 0, 2)
	if last != (api.View{Number: 1 << 63, Members: 1, Base: 2}) || e != api.OK || x.Set(v) != api.OK || x.Set(last) != api.OK || x.Get() != last {
		t.Errorf("%v, %v, %v", last, e, x.Get())
	}
	for _, f := range []func() (api.View, api.Errno){
		func() (api.View, api.Errno) { return view.Shrink(last, 0, 3) },
		func() (api.View, api.Errno) { return view.Grow(last, 3) },
	} {
		if v, e := f(); v != (api.View{}) || e != api.ErrArg {
			t.Errorf("behind the last one: %v, %v", v, e)
		}
	}
}

// Rule 5: the chips that are handed in aren't changed, their spare room neither.
func TestArgumentsStay(t *testing.T) {
	whole := []int{0, 1, 5, -1, 1, 0}
	was := slices.Clone(whole)
	for n := range whole {
		view.Has(api.View{Number: 1, Members: 3}, whole[:n]...)
	}
	if !slices.Equal(whole, was) {
		t.Error(whole)
	}
}

// wild calls everything with arguments of all kinds, and gives all that was answered.
func wild() []string {
	var all []string
	x := view.NewTie()
	for _, v := range someViews() {
		all = append(all, fmt.Sprint(x.Set(v), x.Get()))
		for _, chip := range append(odd(), 0, 1) {
			w, e := view.Shrink(v, chip, uint64(chip))
			all = append(all, fmt.Sprint(w, e, view.Has(v, chip), view.Has(v, 0, chip)))
			w, e = view.Grow(v, uint64(chip))
			all = append(all, fmt.Sprint(w, e))
		}
	}
	return all
}

// P1, P2: no call panics, whatever it is given, and two runs of the same calls give the same answers.
func TestWild(t *testing.T) {
	if !slices.Equal(wild(), wild()) {
		t.Error("two runs give different answers")
	}
}
