package store

import (
	"bytes"
	"math"
	"slices"

	"keelson/api"
	"keelson/node"
)

// ready lets the log hold nothing that Open would take for more than the store is, and have a free block.
func (s *Store) ready() api.Errno {
	if _, e := s.Read(0, 0); e != api.OK {
		return e
	}
	if s.unsure {
		if e := s.disown(); e != api.OK {
			return e
		}
	}
	return s.spare()
}

// disown lets the log hold nothing of a change that broke off, as far as Open would take it for the store's.
func (s *Store) disown() api.Errno {
	// It ends: each turn drops a segment, and writes nothing of that kind.
	for {
		if e := s.spare(); e != api.OK {
			return e
		}
		list, e := s.scan()
		if e != api.OK {
			return e
		}
		s.learn(list)
		if bars(list) < len(list) {
			// The last one first: the commit of the epoch 0 holds until nothing stands behind it. Till then nothing may be written.
			if e := s.drop(list[len(list)-1].at.Block); e != api.OK {
				return e
			}
			continue
		}
		block, ok := s.strange(list)
		if !ok {
			block, ok = doubtful(list)
		}
		if !ok {
			s.unsure = false
			return api.OK
		}
		if e := s.vacate(block); e != api.OK {
			return e
		}
	}
}

// strange gives the block of the last record by which Open would take the store for another one, or false if there is none.
func (s *Store) strange(list []record) (int, bool) {
	o := over(s.Log)
	o.take(list)
	if o.commit.Epoch > s.commit.Epoch {
		return o.commitAt.Block, true
	}
	if o.viewAt != nowhere && (s.viewAt == nowhere || o.view.Number >= s.view.Number && o.view != s.view) {
		return o.viewAt.Block, true
	}
	for _, key := range node.Keys(s.commit.Live) {
		// What can't be read here isn't held against anything.
		is, _, e := s.Node(key)
		n, _, f := o.Node(key)
		if e == api.OK && f == api.OK && !bytes.Equal(is.Body, n.Body) {
			return o.nodes[key].at.Block, true
		}
	}
	return 0, false
}

// doubtful gives the block of the last record, if that must be mended: it may have been written over a turned bit when the power went, so that one more makes it unreadable.
func doubtful(list []record) (int, bool) {
	if len(list) == 0 || list[len(list)-1].mended == 0 {
		return 0, false
	}
	return list[len(list)-1].at.Block, true
}

// spare lets there be a free block.
func (s *Store) spare() api.Errno {
	if s.Free() > 0 {
		return api.OK
	}
	if len(s.broken) > 0 {
		return s.drop(s.broken[0])
	}
	// A segment was being emptied into the last one when that broke off: what counts stands in both.
	list, e := s.scan()
	if e != api.OK {
		return e
	}
	last, ok := s.newest()
	s.leave(last, list)
	if !ok || s.counts()[last] > 0 {
		return api.OK
	}
	return s.drop(last)
}

// leave lets what counts in a block count elsewhere, as far as it stands there, too.
func (s *Store) leave(block int, list []record) {
	other := func(at api.Place) api.Place {
		if at.Block != block {
			return at
		}
		return elsewhere(at, list)
	}
	for _, nodes := range []map[int]held{s.nodes, s.staged} {
		for key, h := range nodes {
			h.at = other(h.at)
			nodes[key] = h
		}
	}
	s.commitAt, s.viewAt = other(s.commitAt), other(s.viewAt)
}

// elsewhere gives the best place in another block at which the record of a place stands, or that place if there is none.
func elsewhere(at api.Place, list []record) api.Place {
	i := slices.IndexFunc(list, func(r record) bool { return r.at == at })
	if i < 0 {
		return at
	}
	best := record{at: at, mended: math.MaxInt}
	for _, r := range list {
		if r.at.Block != at.Block && r.kind == list[i].kind && bytes.Equal(r.body, list[i].body) && r.mended <= best.mended {
			best = r
		}
	}
	return best.at
}
