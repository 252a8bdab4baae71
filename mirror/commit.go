package mirror

import (
	"keelson/api"
	"keelson/node"
	"keelson/store"
)

// Commit makes the next epoch.
func (m *Mirror) Commit(changes ...api.Change) api.Errno {
	if m.Off() {
		return api.ErrDown
	}
	lead, ok := m.Lead()
	if !ok {
		return api.ErrDead
	}
	live, ok := behind(m.Live(), changes)
	if !ok {
		return api.ErrArg
	}
	if len(node.Keys(live)) > m.Limit() {
		return api.ErrNoSpace
	}
	if e := m.gather(lead); e != api.OK {
		return e
	}
	return m.commit(0, m.next(), changes)
}

// behind gives which nodes there are behind changes, or false if a store doesn't take them.
func behind(live api.Live, changes []api.Change) (api.Live, bool) {
	var seen api.Live
	for _, c := range changes {
		if _, e := node.Write(api.Node{Key: c.Key, Body: c.Body}); e != api.OK || node.Has(seen, c.Key) {
			return api.Live{}, false
		}
		seen = node.With(seen, c.Key)
		if c.Gone {
			live = node.Without(live, c.Key)
		} else {
			live = node.With(live, c.Key)
		}
	}
	return live, true
}

// gather lets all members be up, and as the lead.
func (m *Mirror) gather(lead int) api.Errno {
	other := 1 - lead
	if !m.Member(other) {
		return api.OK
	}
	s, ok := m.Store(other)
	if !ok {
		return m.fence(lead)
	}
	from := m.sides[lead].store
	if s.Epoch() >= from.Epoch() {
		return api.OK
	}
	// A Commit broke off between the two, and the mirror is used on: a change on top of that would make other nodes of the one than of the other.
	switch e := level(s, from); e {
	case api.OK, api.ErrDown:
		return e
	}
	return m.fence(lead)
}

// level lets a store that is behind another one be as that.
func level(s, from *store.Store) api.Errno {
	for _, key := range node.Keys(from.Live()) {
		n, _, e := from.Node(key)
		// Where what can't be read is missing Finish says so.
		if e != api.OK || s.Holds(key, n.Epoch) {
			continue
		}
		if e := s.Stage(n); e != api.OK {
			return e
		}
	}
	return s.Finish(from.Last())
}

// next gives the next epoch.
func (m *Mirror) next() uint64 {
	greatest := m.View().Base
	for _, s := range m.members {
		greatest = max(greatest, s.Seen())
	}
	// Behind the greatest number that there is it is 0, which a store refuses.
	return greatest + 1
}

// commit lets each member, from a chip on, commit.
func (m *Mirror) commit(chip int, epoch uint64, changes []api.Change) api.Errno {
	if !isChip(chip) {
		return api.OK
	}
	if s, ok := m.Store(chip); ok && m.Member(chip) {
		if e := s.Commit(epoch, changes...); e != api.OK {
			if e := m.expel(chip, e, epoch); e != api.OK {
				return e
			}
		}
	}
	return m.commit(chip+1, epoch, changes)
}

// expel fences a member out that answered an error to the commit of an epoch, if it may be done without it; else the error is the answer.
func (m *Mirror) expel(chip int, why api.Errno, epoch uint64) api.Errno {
	other := 1 - chip
	gone := why == api.ErrDead || why == api.ErrWorn
	if !gone || !m.Member(other) || !m.Up(other) {
		return why
	}
	e := m.fence(other)
	// What one that is alone has committed is what will be opened, also where it couldn't note that it is alone.
	if e != api.ErrDown && !m.Member(chip) && m.Epoch() == epoch {
		return api.OK
	}
	return e
}
