package store

import (
	"slices"

	"keelson/api"
	"keelson/node"
	"keelson/wear"
)

const (
	segmentRoom = api.BlockPages - 2 // a segment's records
	reserve     = 2 * segmentRoom    // one block into which a segment is emptied, one for pages that are passed over
)

// add writes a record, with all that must be done ahead.
func (s *Store) add(kind byte, body []byte) (api.Place, api.Errno) {
	if e := s.ready(); e != api.OK {
		return api.Place{}, e
	}
	if e := s.room(1); e != api.OK {
		return api.Place{}, e
	}
	return s.put(kind, body)
}

// put writes a record.
func (s *Store) put(kind byte, body []byte) (api.Place, api.Errno) {
	left := s.left()
	at, e := s.Append(kind, body)
	if e != api.OK {
		// It may stand there all the same.
		s.unsure = true
	}
	if e == api.ErrNoSpace {
		// There is room for all that counts, unless blocks couldn't be dropped.
		return api.Place{}, api.ErrWorn
	}
	if e != api.OK {
		return api.Place{}, e
	}
	s.trace(record{at: at, kind: kind, body: body})
	if s.left() != left-1 {
		// What was passed over may be read as the record, too.
		s.traceAll()
	}
	return at, api.OK
}

// left tells how many records fit behind the last one, if no page is passed over.
func (s *Store) left() int { return s.Room() + segmentRoom*s.Free() }

// drop lets a segment be free.
func (s *Store) drop(block int) api.Errno {
	if e := s.Drop(block); e != api.OK {
		s.broken, s.unsure = append(s.broken, block), true
		return e
	}
	for at := range s.traces {
		if at.Block == block {
			delete(s.traces, at)
		}
	}
	s.broken = slices.DeleteFunc(s.broken, func(b int) bool { return b == block })
	return api.OK
}

// room lets there be room for so many records.
func (s *Store) room(records int) api.Errno {
	// Each turn gives a page more at least, as long as there are no more nodes than Limit.
	for range api.BlockPages * s.Len() {
		if s.left()-reserve >= records {
			return api.OK
		}
		block, ok := s.victim()
		if !ok {
			return api.ErrWorn
		}
		if e := s.empty(block); e != api.OK {
			return e
		}
	}
	return api.ErrWorn
}

// victim gives the segment that is emptied next.
func (s *Store) victim() (int, bool) {
	counts := s.counts()
	var list []wear.Load
	for _, segment := range s.Segments() {
		list = append(list, wear.Load{Segment: segment, Counts: counts[segment.Block]})
	}
	i, ok := wear.Victim(list...)
	if !ok {
		return 0, false
	}
	return list[i].Segment.Block, true
}

// counts tells how many records count in each block.
func (s *Store) counts() map[int]int {
	list := map[int]int{}
	for _, nodes := range []map[int]held{s.nodes, s.staged} {
		for _, h := range nodes {
			list[h.at.Block]++
		}
	}
	list[s.commitAt.Block]++
	list[s.viewAt.Block]++
	return list
}

// vacate empties a segment, which may be the last one.
func (s *Store) vacate(block int) api.Errno {
	if last, ok := s.newest(); ok && last == block {
		s.Shut()
	}
	return s.empty(block)
}

// newest gives the last segment's block, or false if there is none.
func (s *Store) newest() (int, bool) {
	list := s.Segments()
	if len(list) == 0 {
		return 0, false
	}
	return list[len(list)-1].Block, true
}

// empty writes what counts in a segment anew, and drops it.
func (s *Store) empty(block int) api.Errno {
	for page := range api.BlockPages {
		if e := s.move(api.Place{Block: block, Page: page}); e != api.OK {
			return e
		}
	}
	return s.drop(block)
}

// move writes the record at a place anew, if it counts.
func (s *Store) move(at api.Place) api.Errno {
	switch at {
	case s.commitAt:
		return s.putCommit()
	case s.viewAt:
		return s.putView()
	}
	for _, nodes := range []map[int]held{s.nodes, s.staged} {
		if key, ok := whose(nodes, at); ok {
			return s.moveNode(nodes, key)
		}
	}
	return api.OK
}

// whose gives the key of the node that stands at a place, or false if none does.
func whose(nodes map[int]held, at api.Place) (int, bool) {
	for key, h := range nodes {
		if h.at == at {
			return key, true
		}
	}
	return 0, false
}

// moveNode writes one of these nodes anew.
func (s *Store) moveNode(nodes map[int]held, key int) api.Errno {
	h := nodes[key]
	n, _, e := s.read(key, h)
	if e == api.ErrDown || e == api.ErrDead {
		return e
	}
	h.at = nowhere
	if e == api.OK {
		// What was read may be written.
		body, _ := node.Write(n)
		at, e := s.put(api.KindNode, body)
		if e != api.OK {
			return e
		}
		h.at = at
	}
	nodes[key] = h
	return api.OK
}

// putCommit writes the last commit anew.
func (s *Store) putCommit() api.Errno {
	at, e := s.put(api.KindCommit, node.WriteCommit(s.commit))
	if e == api.OK {
		s.commitAt = at
	}
	return e
}

// putView writes the view anew.
func (s *Store) putView() api.Errno {
	at, e := s.put(api.KindView, viewBody(s.view))
	if e == api.OK {
		s.viewAt = at
	}
	return e
}
