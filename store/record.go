package store

import (
	"keelson/api"
	"keelson/node"
	"keelson/pack"
)

// viewSize is how many bytes a view's number, members and base have.
const viewSize = 8 + 1 + 8

// record is a record as it stands in the log.
type record struct {
	at     api.Place
	kind   byte
	body   []byte
	mended int // how many bits of it must be mended
}

// node gives the node that a record is, or false if it is none.
func (r record) node() (api.Node, bool) {
	n, e := node.Read(r.body)
	if e != api.OK || r.kind != api.KindNode {
		return api.Node{}, false
	}
	return n, true
}

// commit gives the commit that a record is, or false if it is none.
func (r record) commit() (api.Commit, bool) {
	c, e := node.ReadCommit(r.body)
	if e != api.OK || r.kind != api.KindCommit {
		return api.Commit{}, false
	}
	return c, true
}

// view gives the view that a record is, or false if it is none.
func (r record) view() (api.View, bool) {
	if r.kind != api.KindView || len(r.body) != viewSize {
		return api.View{}, false
	}
	b := pack.NewReader(r.body)
	return api.View{Number: b.Num(8), Members: int(b.Num(1)), Base: b.Num(8)}, true
}

// scan gives all records of the log that can be read, in the log's order.
func (s *Store) scan() ([]record, api.Errno) {
	// Where the chip doesn't answer a log tells segments without records.
	if _, e := s.Read(0, 0); e != api.OK {
		return nil, e
	}
	var list []record
	for _, segment := range s.Segments() {
		for _, at := range segment.Records {
			kind, body, mended, e := s.Get(at)
			if e != api.OK {
				return nil, e
			}
			list = append(list, record{at: at, kind: kind, body: body, mended: mended})
		}
	}
	return list, api.OK
}

// bars gives the place in list of the commit of the epoch 0 behind which no other one stands, or how many there are.
func bars(list []record) int {
	at := len(list)
	for i, r := range list {
		c, ok := r.commit()
		switch {
		case !ok:
		case c.Epoch > 0:
			at = len(list)
		default:
			at = min(at, i)
		}
	}
	return at
}
