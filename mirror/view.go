package mirror

import (
	"keelson/api"
	"keelson/store"
	"keelson/view"
)

// View gives the view.
func (m *Mirror) View() api.View { return m.tie.Get() }

// fence leaves a chip alone in the view.
func (m *Mirror) fence(chip int) api.Errno {
	s := m.sides[chip].store
	v, e := view.Shrink(m.latest(), chip, s.Epoch())
	if e != api.OK {
		return e
	}
	// The tie first: whatever becomes of the note, the other chip isn't elected any more.
	if e := m.tie.Set(v); e != api.OK {
		return e
	}
	return s.Note(v)
}

// latest gives the view so far, with a Number than which no view that was seen has a greater one.
func (m *Mirror) latest() api.View {
	for chip := range m.sides {
		m.see(m.sides[chip].store)
	}
	v := m.View()
	v.Number = max(v.Number, m.number)
	return v
}

// see notes which view a store has.
func (m *Mirror) see(s *store.Store) {
	if s == nil {
		return
	}
	v, _ := s.View()
	m.number = max(m.number, v.Number)
}
