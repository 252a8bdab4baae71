package store

import (
	"bytes"
	"maps"
	"slices"

	"keelson/api"
	"keelson/crc"
	"keelson/node"
	"keelson/pack"
)

// How a change is written: the nodes that are new stand in the log ahead of
// the commit, and that alone makes them the store's. A node of the last epoch
// is the record of its key with the greatest epoch that isn't above the last
// one (of several the last one). So whatever is moved, in whatever order, is
// found, as long as no other record of its key has an epoch between its own
// and the last one: ahead of a commit the segments that hold such records
// (of a commit that broke off, or of what was staged in vain) are emptied.
//
// A staged node whose record would itself be such a one, ahead of the commit
// that makes it the store's, is kept in hand until then. Finish writes it
// behind a commit of the epoch 0: what stands behind that counts for nothing
// as long as no other commit stands behind it.

// Commit makes the next epoch.
func (s *Store) Commit(epoch uint64, changes ...api.Change) api.Errno {
	if epoch <= s.Seen() || !fit(changes) {
		return api.ErrArg
	}
	next := maps.Clone(s.nodes)
	var fresh []api.Node
	for _, c := range changes {
		if c.Gone {
			delete(next, c.Key)
			continue
		}
		next[c.Key] = held{epoch: epoch}
		fresh = append(fresh, api.Node{Key: c.Key, Epoch: epoch, Body: c.Body})
	}
	if len(next) > s.Limit() {
		return api.ErrNoSpace
	}
	defer s.forget(s.Count(), s.staged)
	// What is staged takes no room from here on.
	s.staged = map[int]held{}
	live := node.With(api.Live{}, slices.Collect(maps.Keys(next))...)
	return s.install(api.Commit{Epoch: epoch, Live: live, Sum: sum(next)}, next, fresh)
}

// forget lets nothing of what was staged be staged any more, if anything was written since there were so many acts.
func (s *Store) forget(acts int, staged map[int]held) {
	if s.Count() != acts {
		clear(staged)
	}
	s.staged = staged
}

// Stage writes a node of an epoch of another store.
func (s *Store) Stage(n api.Node) api.Errno {
	body, e := node.Write(n)
	if e != api.OK || n.Epoch == 0 || n.Epoch < s.nodes[n.Key].epoch {
		return api.ErrArg
	}
	others := len(s.staged)
	if _, ok := s.staged[n.Key]; ok {
		others--
	}
	if others >= s.Limit() {
		return api.ErrNoSpace
	}
	h := held{epoch: n.Epoch, at: nowhere}
	if s.hides(n) {
		n.Body = bytes.Clone(n.Body)
		h.hand, e = &n, s.ready()
	} else {
		h.at, e = s.add(api.KindNode, body)
	}
	if e != api.OK {
		return e
	}
	s.staged[n.Key] = h
	return api.OK
}

// hides tells whether a node's record would be taken for a node of the last epoch.
func (s *Store) hides(n api.Node) bool {
	return n.Epoch <= s.commit.Epoch && node.Has(s.commit.Live, n.Key)
}

// Finish ends an epoch of another store.
func (s *Store) Finish(c api.Commit) api.Errno {
	if c.Epoch <= s.commit.Epoch {
		return api.ErrArg
	}
	for _, h := range s.staged {
		if h.epoch > c.Epoch {
			return api.ErrArg
		}
	}
	if len(node.Keys(c.Live)) > s.Limit() {
		return api.ErrNoSpace
	}
	next, ok := s.become(c.Live)
	if !ok || sum(next) != c.Sum || s.strays() {
		return api.ErrForm
	}
	if e := s.install(c, next, s.inHand()); e != api.OK {
		return e
	}
	clear(s.staged)
	return api.OK
}

// become gives the nodes that there would be with what is staged, or false if that isn't so live.
func (s *Store) become(live api.Live) (map[int]held, bool) {
	next := maps.Clone(s.nodes)
	for key, h := range s.staged {
		if !node.Has(live, key) {
			return nil, false
		}
		next[key] = h
	}
	maps.DeleteFunc(next, func(key int, _ held) bool { return !node.Has(live, key) })
	for key, h := range next {
		// The other store's sum tells of which epoch it is.
		h.doubt = false
		next[key] = h
	}
	return next, len(next) == len(node.Keys(live))
}

// strays tells whether there is a record of a node of an epoch above the last one whose key isn't staged.
func (s *Store) strays() bool {
	s.retrace()
	for _, t := range s.traces {
		_, ok := s.staged[t.key]
		if t.key != noKey && t.epoch > s.commit.Epoch && !ok {
			return true
		}
	}
	return false
}

// inHand gives the staged nodes that aren't written yet, by their keys.
func (s *Store) inHand() []api.Node {
	var list []api.Node
	for key := range api.Keys {
		if h := s.staged[key]; h.hand != nil {
			list = append(list, *h.hand)
		}
	}
	return list
}

// Repair writes a node of the last epoch anew.
func (s *Store) Repair(n api.Node) api.Errno {
	h, ok := s.nodes[n.Key]
	if !ok {
		return api.ErrNone
	}
	body, e := node.Write(n)
	if e != api.OK || n.Epoch == 0 || n.Epoch != h.epoch {
		return api.ErrArg
	}
	at, e := s.add(api.KindNode, body)
	if e != api.OK {
		return e
	}
	s.nodes[n.Key] = held{epoch: n.Epoch, at: at, doubt: h.doubt}
	return api.OK
}

// Note notes a view.
func (s *Store) Note(v api.View) api.Errno {
	v.Members = int(byte(v.Members))
	at, e := s.add(api.KindView, viewBody(v))
	if e != api.OK {
		return e
	}
	if s.viewAt == nowhere || v.Number >= s.view.Number {
		s.view, s.viewAt = v, at
	}
	return api.OK
}

// viewBody gives the body of a view's record.
func viewBody(v api.View) []byte {
	return pack.Join(pack.Num(8, v.Number), pack.Num(1, uint64(v.Members)), pack.Num(8, v.Base))
}

// install lets the store be what a commit tells: the next nodes, of which the fresh ones aren't written yet.
func (s *Store) install(c api.Commit, next map[int]held, fresh []api.Node) api.Errno {
	if e := s.ready(); e != api.OK {
		return e
	}
	if e := s.clearWay(c.Epoch, next); e != api.OK {
		return e
	}
	// With all the room that it takes nothing is moved between the records of one change.
	if e := s.room(1 + len(fresh) + 1); e != api.OK {
		return e
	}
	if slices.ContainsFunc(fresh, s.hides) {
		if e := s.bar(); e != api.OK {
			return e
		}
	}
	written := map[int]held{}
	for _, n := range fresh {
		// That it can be written was looked at ahead.
		body, _ := node.Write(n)
		at, e := s.put(api.KindNode, body)
		if e != api.OK {
			return e
		}
		written[n.Key] = held{epoch: n.Epoch, at: at}
	}
	at, e := s.put(api.KindCommit, node.WriteCommit(c))
	if e != api.OK {
		return e
	}
	for key, h := range next {
		// Where the others stand may have changed since.
		is := first(key, written, s.staged, s.nodes)
		is.doubt = h.doubt
		next[key] = is
	}
	s.nodes, s.commit, s.commitAt = next, c, at
	return api.OK
}

// bar lets what is written from here on count for nothing until a commit stands behind it.
func (s *Store) bar() api.Errno {
	// It begins a segment, so that those that count for nothing hold nothing else.
	s.Shut()
	_, e := s.put(api.KindCommit, node.WriteCommit(api.Commit{}))
	return e
}

// clearWay lets the log hold no record that would be taken for one of the next nodes, when this is the last epoch.
func (s *Store) clearWay(last uint64, next map[int]held) api.Errno {
	// It ends: each turn drops a segment with such a record, and writes no such one.
	for {
		block, ok := s.inWay(last, next)
		if !ok {
			return api.OK
		}
		if e := s.vacate(block); e != api.OK {
			return e
		}
	}
}

// inWay gives the least block that holds such a record, or false if none does.
func (s *Store) inWay(last uint64, next map[int]held) (int, bool) {
	found, ok := 0, false
	for at, t := range s.traces {
		// Of a node whose epoch isn't known (0) none can be told.
		epoch := next[t.key].epoch
		if epoch > 0 && t.epoch > epoch && t.epoch <= last && (!ok || at.Block < found) {
			found, ok = at.Block, true
		}
	}
	return found, ok
}

// fit tells whether these are changes of nodes, each of another one.
func fit(changes []api.Change) bool {
	var seen api.Live
	for _, c := range changes {
		if _, e := node.Write(api.Node{Key: c.Key, Body: c.Body}); e != api.OK || node.Has(seen, c.Key) {
			return false
		}
		seen = node.With(seen, c.Key)
	}
	return true
}

// first gives a key's node from the first of these that has one.
func first(key int, from ...map[int]held) held {
	for _, nodes := range from {
		if h, ok := nodes[key]; ok {
			return h
		}
	}
	return held{at: nowhere}
}

// sum gives the Sum of nodes. One of which there is doubt isn't told by its epoch, so that no later Open takes it for the last epoch's.
func sum(nodes map[int]held) uint32 {
	all := crc.Sum()
	for key := range api.Keys {
		h, ok := nodes[key]
		if h.doubt {
			h.epoch = 0
		}
		if ok {
			all = crc.On(all, pack.Num(1, uint64(key)), pack.Num(8, h.epoch))
		}
	}
	return all
}
