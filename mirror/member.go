package mirror

import (
	"keelson/api"
	"keelson/nand"
	"keelson/store"
	"keelson/view"
)

// Replace puts another chip in a chip's place.
func (m *Mirror) Replace(chip int, c *nand.Chip) {
	if !isChip(chip) {
		return
	}
	m.see(m.sides[chip].store)
	m.sides[chip] = side{Chip: c}
}

// Recall opens the store of a chip that lives, and isn't up.
func (m *Mirror) Recall(chip int) api.Errno {
	if !isChip(chip) || m.Up(chip) {
		return api.ErrArg
	}
	lead, ok := m.Lead()
	if !ok || !m.Lives(chip) {
		return api.ErrDead
	}
	s, e := m.open(chip)
	same := e == api.OK && s.Sound() && s.Last() == m.last()
	if m.Member(chip) && !same {
		if e := m.fence(lead); e != api.OK {
			return e
		}
	}
	if e != api.OK {
		return e
	}
	m.sides[chip].hold(s)
	return api.OK
}

// open gives the store that a chip holds.
func (m *Mirror) open(chip int) (*store.Store, api.Errno) {
	s, e := store.Open(m.sides[chip].Chip)
	m.see(s)
	return s, e
}

// Renew lets a chip that isn't a member hold no nodes.
func (m *Mirror) Renew(chip int) api.Errno {
	if !isChip(chip) || m.Member(chip) {
		return api.ErrArg
	}
	m.see(m.sides[chip].store)
	return m.sides[chip].format()
}

// Join makes a chip that holds all that the lead holds a member.
func (m *Mirror) Join(chip int) api.Errno {
	s, ok := m.Store(chip)
	if !ok || m.Member(chip) {
		return api.ErrArg
	}
	lead, ok := m.Lead()
	if !ok {
		return api.ErrDead
	}
	if s.Last() != m.last() {
		return api.ErrBusy
	}
	v, e := view.Grow(m.latest(), m.Epoch())
	if e != api.OK {
		return e
	}
	if e := m.sides[lead].store.Note(v); e != api.OK {
		return e
	}
	if e := s.Note(v); e != api.OK {
		return e
	}
	// The tie last: until then the lead alone is elected.
	return m.tie.Set(v)
}
