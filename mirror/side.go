package mirror

import (
	"keelson/api"
	"keelson/nand"
	"keelson/store"
)

// side is a chip, with its store if that is open.
type side struct {
	*nand.Chip
	store *store.Store
	torn  bool // whether a Format broke off since the store was opened
}

// format lets the chip hold no nodes.
func (s *side) format() api.Errno {
	acts := s.Count()
	fresh, e := store.Format(s.Chip)
	if e != api.OK {
		s.torn = s.torn || s.Count() != acts
		return e
	}
	s.hold(fresh)
	return api.OK
}

// hold lets a store be the one that is open, or none.
func (s *side) hold(one *store.Store) { s.store, s.torn = one, false }

// held gives the store that the chip holds, nil if none is open.
func (s *side) held() *store.Store {
	// What is left behind a Format that broke off isn't what the open store knows; without power there is no telling.
	if s.store != nil && s.torn && !s.Off() {
		left, _ := store.Open(s.Chip)
		s.hold(left)
	}
	return s.store
}
