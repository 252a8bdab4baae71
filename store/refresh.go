package store

import (
	"bytes"
	"slices"

	"keelson/api"
	"keelson/frame"
)

// headPage is the page of a segment's head record.
const headPage = 1

// Refresh writes anew what must be mended.
func (s *Store) Refresh() api.Errno {
	if e := s.Disk.Refresh(); e != api.OK {
		return e
	}
	if e := s.ready(); e != api.OK {
		return e
	}
	// Both ahead of the segments: where one can't be read it doesn't count any more then, so that all else there is written anew, too.
	if s.commitAt != nowhere && !s.commitStands() {
		if e := s.again(s.putCommit); e != api.OK {
			return e
		}
	}
	if s.viewAt != nowhere && !s.viewStands() {
		if e := s.again(s.putView); e != api.OK {
			return e
		}
	}
	// What is written here is looked at, too: a page may have had a turned bit ahead of that.
	for at, ok := s.behind(nil); ok; at, ok = s.behind(&at) {
		if e := s.renew(at.Block); e != api.OK {
			return e
		}
	}
	return api.OK
}

// again writes something anew, with room for it.
func (s *Store) again(put func() api.Errno) api.Errno {
	if e := s.room(1); e != api.OK {
		return e
	}
	return put()
}

// behind gives the segment behind another one in the log's order, or the first one, or false if there is none.
func (s *Store) behind(one *api.Segment) (api.Segment, bool) {
	list := s.Segments()
	i := slices.IndexFunc(list, func(x api.Segment) bool { return one == nil || x.Seq > one.Seq })
	if i < 0 {
		return api.Segment{}, false
	}
	return list[i], true
}

// renew writes what counts in a segment anew, if a page of it isn't as it was written, and drops it.
func (s *Store) renew(block int) api.Errno {
	clean, e := s.isClean(block)
	if e != api.OK {
		return e
	}
	if clean && s.hasHead(block) || !s.isWhole(block) {
		return api.OK
	}
	return s.vacate(block)
}

// isClean tells whether each page of a block holds a record, or nothing, bit by bit.
func (s *Store) isClean(block int) (bool, api.Errno) {
	// Not only of records: a page that is still to be written may get one over a turned bit, if the power goes then, and one whose writing broke off would be read in the end, if enough bits turned.
	for page := range api.BlockPages {
		p, e := s.Read(block, page)
		if e != api.OK {
			return false, e
		}
		_, _, mended, e := frame.Read(p)
		if mended > 0 || e != api.OK && bytes.Count(p[:], []byte{255}) < len(p) {
			return false, api.OK
		}
	}
	return true, api.OK
}

// hasHead tells whether a segment's head can be read: without it Open would take the segment for a free block.
func (s *Store) hasHead(block int) bool {
	p, _ := s.Read(block, headPage)
	kind, _, _, e := frame.Read(p)
	return e == api.OK && kind == api.KindHead
}

// isWhole tells whether all in a segment that counts can be read.
func (s *Store) isWhole(block int) bool {
	for _, nodes := range []map[int]held{s.nodes, s.staged} {
		for key, h := range nodes {
			if h.at.Block != block {
				continue
			}
			if _, _, e := s.read(key, h); e != api.OK {
				return false
			}
		}
	}
	if s.commitAt.Block == block && !s.commitStands() {
		return false
	}
	return s.viewAt.Block != block || s.viewStands()
}

// commitStands tells whether the last commit's record can be read.
func (s *Store) commitStands() bool {
	c, ok := s.stands(s.commitAt).commit()
	return ok && c == s.commit
}

// viewStands tells whether the view's record can be read.
func (s *Store) viewStands() bool {
	v, ok := s.stands(s.viewAt).view()
	return ok && v == s.view
}

// stands gives the record at a place, or one of no kind if it can't be read.
func (s *Store) stands(at api.Place) record {
	kind, body, _, _ := s.Get(at)
	return record{at: at, kind: kind, body: body}
}
