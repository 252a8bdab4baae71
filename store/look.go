package store

import (
	"maps"
	"slices"

	"keelson/api"
	"keelson/node"
)

// noKey is the key of what isn't a node.
const noKey = -1

// trace is what is known of a node's, or a commit's, record, whether that counts or not.
type trace struct {
	key   int // noKey of a commit
	epoch uint64
}

// take lets the store be what the log's records tell.
func (s *Store) take(list []record) {
	list = list[:bars(list)]
	for _, r := range list {
		if c, ok := r.commit(); ok && c.Epoch >= s.commit.Epoch {
			s.commit, s.commitAt = c, r.at
		}
		if v, ok := r.view(); ok && (s.viewAt == nowhere || v.Number >= s.view.Number) {
			s.view, s.viewAt = v, r.at
		}
	}
	for _, key := range node.Keys(s.commit.Live) {
		s.nodes[key] = held{at: nowhere, lost: true}
	}
	for _, r := range list {
		n, ok := r.node()
		h, live := s.nodes[n.Key]
		if ok && live && n.Epoch <= s.commit.Epoch && n.Epoch >= h.epoch {
			s.nodes[n.Key] = held{epoch: n.Epoch, at: r.at}
		}
	}
}

// trace notes a record.
func (s *Store) trace(r record) {
	if n, ok := r.node(); ok {
		s.traces[r.at] = trace{key: n.Key, epoch: n.Epoch}
	}
	if c, ok := r.commit(); ok {
		s.traces[r.at] = trace{key: noKey, epoch: c.Epoch}
	}
}

// retrace notes the log's records, if it isn't sure which ones there are.
func (s *Store) retrace() {
	if s.unsure {
		s.traceAll()
	}
}

// traceAll notes the log's records, as far as the chip answers.
func (s *Store) traceAll() {
	if list, e := s.scan(); e == api.OK {
		s.learn(list)
	}
}

// learn notes which records the log has.
func (s *Store) learn(list []record) {
	clear(s.traces)
	for _, r := range list {
		s.trace(r)
	}
}

// weigh looks whether the nodes that were found are those of the last commit.
func (s *Store) weigh() {
	whole := s.Sound()
	if whole && sum(s.nodes) == s.commit.Sum {
		return
	}
	lost := node.Keys(s.commit.Live)
	if !whole {
		lost = slices.DeleteFunc(lost, func(key int) bool { return !s.nodes[key].lost })
	}
	// If one alone is lost the commit's Sum tells which one, and of which epoch it was.
	for _, key := range lost {
		for _, epoch := range s.between(s.nodes[key].epoch, s.commit.Epoch) {
			other := maps.Clone(s.nodes)
			other[key] = held{epoch: epoch, at: nowhere, lost: true}
			if sum(other) == s.commit.Sum {
				s.nodes = other
				return
			}
		}
	}
	for key, h := range s.nodes {
		h.doubt = whole
		s.nodes[key] = h
	}
}

// between gives the epochs above one, up to another one, of which there are records, rising.
func (s *Store) between(low, high uint64) []uint64 {
	var list []uint64
	for _, t := range s.traces {
		if t.epoch > low && t.epoch <= high {
			list = append(list, t.epoch)
		}
	}
	slices.Sort(list)
	return slices.Compact(list)
}
