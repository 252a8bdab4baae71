package resync

import (
	"iter"
	"slices"

	"keelson/api"
	"keelson/node"
	"keelson/store"
)

// goOn lets a chip with which it has begun be a little more as the lead, and a member once it is as that.
func (r *Resync) goOn(lead, chip int) (bool, api.Errno) {
	from, _ := r.Store(lead)
	to, _ := r.Store(chip)
	if key, ok := lacking(to, from); ok {
		return false, r.stage(chip, key, to, from)
	}
	if to.Last() != from.Last() {
		return false, r.unless(chip, to.Finish(from.Last()), api.ErrForm, api.ErrArg)
	}
	e := r.Join(chip)
	return e == api.OK, e
}

// stage stages the lead's node of a key.
func (r *Resync) stage(chip, key int, to, from *store.Store) api.Errno {
	n, _, e := from.Node(key)
	if e != api.OK {
		return e
	}
	return r.unless(chip, to.Stage(n), api.ErrNoSpace, api.ErrArg)
}

// unless gives what a chip's store answered, unless that is one of the answers by which the store never becomes as the lead's: then it begins anew.
func (r *Resync) unless(chip int, answer api.Errno, never ...api.Errno) api.Errno {
	if slices.Contains(never, answer) {
		return r.anew(chip)
	}
	return answer
}

// lacking gives the least key of a node that another store has, and this one doesn't hold with its epoch, or false if there is none.
func lacking(to, from *store.Store) (int, bool) {
	for _, key := range node.Keys(from.Live()) {
		if !agree(key, to, from) {
			return key, true
		}
	}
	return 0, false
}

// agree tells whether a store holds the node of a key that another one has, with its epoch.
func agree(key int, to, from *store.Store) bool {
	n, _, e := from.Node(key)
	if e == api.OK {
		return to.Holds(key, n.Epoch)
	}
	// Where it can't be read its epoch isn't told, but both can be asked whether it is a certain one: what the other store holds stands in its log.
	for epoch := range written(to) {
		if to.Holds(key, epoch) && from.Holds(key, epoch) {
			return true
		}
	}
	return false
}

// written gives the epochs of the nodes that stand in a store's log.
func written(s *store.Store) iter.Seq[uint64] {
	return func(yield func(epoch uint64) bool) {
		for _, segment := range s.Segments() {
			for _, at := range segment.Records {
				kind, body, _, _ := s.Get(at)
				n, e := node.Read(body)
				if kind == api.KindNode && e == api.OK && !yield(n.Epoch) {
					return
				}
			}
		}
	}
}
