package elect_test

import (
	"math"

	"keelson/api"
)

// plainRight tells by layer 12's words whether a view is right.
func plainRight(v api.View) bool {
	return v.Number != 0 && v.Number <= 9223372036854775808 && (v.Members == 1 || v.Members == 2 || v.Members == 3)
}

// plainMember tells by layer 12's words whether the chip 0 or 1 is a member.
func plainMember(v api.View, chip int) bool {
	if chip == 1 {
		return v.Members>>1%2 != 0
	}
	return v.Members%2 != 0
}

// plainMay tells by the chapter's words whether a chip may be elected.
func plainMay(tie api.View, chip int, c api.Chip) bool {
	if !c.Here || !c.Store || !c.Sound {
		return false
	}
	return plainMember(tie, chip) && !(c.Last.Epoch < tie.Base)
}

// plainChoose is P13.1, word by word, of two chips.
func plainChoose(tie api.View, a, b api.Chip) (api.Plan, api.Errno) {
	if !plainRight(tie) {
		return api.Plan{}, api.ErrNoReplica
	}
	if !(a.Here && a.Store) && !(b.Here && b.Store) {
		return api.Plan{}, api.ErrNoReplica
	}
	mayA, mayB := plainMay(tie, 0, a), plainMay(tie, 1, b)
	p := api.Plan{}
	switch {
	case mayA && mayB && a.Last == b.Last:
		p = api.Plan{Chip: 0, Members: 3}
	case mayA && mayB && a.Last.Epoch < b.Last.Epoch, mayB && !mayA:
		p = api.Plan{Chip: 1, Members: 2}
	case mayA:
		p = api.Plan{Chip: 0, Members: 1}
	default:
		if plainMember(tie, 0) && a.Here && a.Store && !a.Sound || plainMember(tie, 1) && b.Here && b.Store && !b.Sound {
			return api.Plan{}, api.ErrCorrupt
		}
		return api.Plan{}, api.ErrStale
	}
	p.Fence = p.Members != tie.Members
	return p, api.OK
}

// plainSuffix is P13.2, word by word.
func plainSuffix(tie api.View, chip, other api.Chip) bool {
	if !chip.Here || !chip.Store || !chip.Sound {
		return false
	}
	if chip.Seen != chip.Last.Epoch || chip.Last.Epoch == 0 {
		return false
	}
	if chip.View.Number+1 != tie.Number {
		return false
	}
	if plainMember(tie, 0) && plainMember(tie, 1) || tie.Base < chip.Last.Epoch {
		return false
	}
	return !(other.Last.Epoch < tie.Base)
}

// lasts are last commits: of several epochs, and of one epoch, but of other nodes.
func lasts() []api.Commit {
	other := api.Live{}
	other[31] = 128
	return []api.Commit{{}, {Epoch: 2, Sum: 1}, {Epoch: 3, Sum: 1}, {Epoch: 3, Sum: 2}, {Epoch: 3, Sum: 1, Live: other}, {Epoch: 4, Sum: 1}, {Epoch: math.MaxUint64, Sum: 1}}
}

// someChips are chips that are Here or not, hold a Store or not, are Sound or not, with each of the last commits.
func someChips() []api.Chip {
	var list []api.Chip
	for i := range 8 {
		for _, last := range lasts() {
			list = append(list, api.Chip{Here: i&1 != 0, Store: i&2 != 0, Sound: i&4 != 0, Last: last, Seen: last.Epoch})
		}
	}
	return list
}

// someTies are views of ties, right ones and others.
func someTies() []api.View {
	var list []api.View
	for _, number := range []uint64{0, 1, 5, 1 << 63, 1<<63 + 1, math.MaxUint64} {
		for _, members := range []int{0, 1, 2, 3, 4, 7, -1, math.MinInt} {
			for _, base := range []uint64{0, 2, 3, 4, math.MaxUint64} {
				list = append(list, api.View{Number: number, Members: members, Base: base})
			}
		}
	}
	return list
}
