package cache_test

import (
	"bytes"
	"maps"
	"math"
	"slices"
	"testing"

	"keelson/api"
	"keelson/cache"
)

// odd are numbers that no node has as its key.
var odd = []int{-1, -8, -256, 256, 257, 264, 512, math.MaxInt32, math.MinInt32, math.MaxInt, math.MinInt, math.MinInt + 5, 1<<32 + 5}

// shelf is a source that hands out its nodes as they stand.
type shelf struct {
	nodes map[int][]byte
	limit int
	fault api.Errno // of Node, if it isn't OK
}

func (s *shelf) Node(key int) ([]byte, api.Errno) {
	if s.fault != api.OK {
		return []byte("beside an error"), s.fault
	}
	b, ok := s.nodes[key]
	if !ok {
		return nil, api.ErrNone
	}
	return b, api.OK
}

func (s *shelf) Live() api.Live { return lives(slices.Collect(maps.Keys(s.nodes))...) }

func (s *shelf) Limit() int { return s.limit }

// lives gives what nodes there are, of some keys, by layer 9's words.
func lives(keys ...int) api.Live {
	var l api.Live
	for _, key := range keys {
		l[key/8] |= 1 << (key % 8)
	}
	return l
}

// holding gives a shelf of nodes of some keys.
func holding(limit int, keys ...int) *shelf {
	s := &shelf{nodes: map[int][]byte{}, limit: limit}
	for _, key := range keys {
		s.nodes[key] = []byte{'k', byte(key), byte(key >> 4)}
	}
	return s
}

// change gives the change by which a node has a body.
func change(key int, body string) api.Change { return api.Change{Key: key, Body: []byte(body)} }

// gone gives the change by which a node is gone.
func gone(key int) api.Change { return api.Change{Key: key, Gone: true} }

// size gives the change by which a node has a body of so many bytes.
func size(key, n int) api.Change { return api.Change{Key: key, Body: bytes.Repeat([]byte{9}, n)} }

// same tells whether two lists of changes are one.
func same(a, b []api.Change) bool {
	return slices.EqualFunc(a, b, func(x, y api.Change) bool {
		return x.Key == y.Key && x.Gone == y.Gone && bytes.Equal(x.Body, y.Body)
	})
}

// plain is a cache by the chapter's words: the list of all changes.
type plain struct {
	s    *shelf
	made []api.Change
}

// last gives the last change of a key.
func (p *plain) last(key int) (api.Change, bool) {
	for _, c := range slices.Backward(p.made) {
		if c.Key == key {
			return c, true
		}
	}
	return api.Change{}, false
}

func (p *plain) get(key int) ([]byte, api.Errno) {
	c, ok := p.last(key)
	switch {
	case !ok && p.s.fault != api.OK:
		return nil, p.s.fault
	case !ok:
		return p.s.Node(key)
	case c.Gone:
		return nil, api.ErrNone
	}
	return c.Body, api.OK
}

// keys gives the keys of all nodes.
func (p *plain) keys() []int {
	var list []int
	for key := range 256 {
		c, ok := p.last(key)
		if _, there := p.s.nodes[key]; ok && !c.Gone || !ok && there {
			list = append(list, key)
		}
	}
	return list
}

func (p *plain) put(changes []api.Change) api.Errno {
	for i, c := range changes {
		twice := slices.ContainsFunc(changes[:i], func(x api.Change) bool { return x.Key == c.Key })
		if c.Key < 0 || c.Key > 255 || len(c.Body) > 224 || twice {
			return api.ErrArg
		}
	}
	behind := &plain{s: p.s, made: slices.Concat(p.made, changes)}
	if n := len(behind.keys()); n > p.s.limit && n > len(p.keys()) {
		return api.ErrNoSpace
	}
	for _, c := range changes {
		p.made = append(p.made, api.Change{Key: c.Key, Gone: c.Gone, Body: bytes.Clone(c.Body)})
	}
	return api.OK
}

func (p *plain) changes() []api.Change {
	var list []api.Change
	for key := range 256 {
		c, ok := p.last(key)
		_, there := p.s.nodes[key]
		switch {
		case ok && !c.Gone:
			list = append(list, c)
		case ok && there:
			list = append(list, gone(key))
		}
	}
	return list
}

// pair is a cache, and what it should be.
type pair struct {
	t *testing.T
	c *cache.Cache
	p *plain
}

// over gives a cache over a shelf.
func over(t *testing.T, s *shelf) *pair { return &pair{t, cache.New(s), &plain{s: s}} }

// puts tells unless a Put answers as it should, and what is told behind it is as it should be; its answer.
func (x *pair) puts(changes ...api.Change) api.Errno {
	x.t.Helper()
	e := x.c.Put(changes...)
	if is := x.p.put(changes); e != is {
		x.t.Fatalf("Put of %v: %v, not %v", changes, e, is)
	}
	x.holds()
	return e
}

// clears forgets all changes.
func (x *pair) clears() {
	x.t.Helper()
	x.c.Clear()
	x.p.made = nil
	x.holds()
}

// holds tells unless all that is told is as it should be.
func (x *pair) holds() {
	x.t.Helper()
	for i := range 256 + len(odd) {
		key := i
		if i >= 256 {
			key = odd[i-256]
		}
		b, e := x.c.Get(key)
		if want, f := x.p.get(key); !bytes.Equal(b, want) || e != f {
			x.t.Errorf("Get(%d): %q, %v, not %q, %v", key, b, e, want, f)
		}
	}
	if l, want := x.c.Live(), lives(x.p.keys()...); l != want {
		x.t.Errorf("Live: %v, not %v", l, want)
	}
	if l, want := x.c.Changes(), x.p.changes(); !same(l, want) {
		x.t.Errorf("Changes: %v, not %v", l, want)
	}
}
