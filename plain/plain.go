// Package plain is a tree of files in memory, by the chapters' words: what the tests hold files over chips against.
package plain

import (
	"maps"
	"slices"
	"strconv"

	"keelson/api"
)

// Tree is files, and handles of them.
type Tree struct {
	at      map[string]*thing // by its path; the top at the empty one
	open    [api.MaxHandles]*thing
	changed bool // since the last OpSync
	limit   func() int
}

// thing is a file, with its bytes, or a directory.
type thing struct {
	kind int
	data []byte
}

// Kept is a tree as it is kept: what is at each path, the top at the empty one.
type Kept map[string]Item

// Item is a file, with its bytes, or a directory.
type Item struct {
	Kind int
	Data string
}

// String tells what it is.
func (x Item) String() string {
	switch x.Kind {
	case api.Dir:
		return "a directory"
	case api.File:
		return "a file of " + strconv.Quote(x.Data)
	}
	return "unreadable: " + x.Data
}

// Empty gives the tree that has the top alone.
func Empty() Kept { return Kept{"": {Kind: api.Dir}} }

// In tells whether a tree is among some.
func (k Kept) In(list ...Kept) bool {
	return slices.ContainsFunc(list, func(x Kept) bool { return maps.Equal(k, x) })
}

// New gives a Tree without handles; limit tells how many nodes there may be.
func New(k Kept, limit func() int) *Tree {
	t := &Tree{at: map[string]*thing{}, limit: limit}
	for path, x := range k {
		t.at[path] = &thing{x.Kind, []byte(x.Data)}
	}
	return t
}

// Kept gives the tree as it would be kept now.
func (t *Tree) Kept() Kept {
	k := Kept{}
	for path, x := range t.at {
		k[path] = Item{x.kind, string(x.data)}
	}
	return k
}

// Paths gives all paths at which there is something, rising.
func (t *Tree) Paths() []string {
	paths := slices.Sorted(maps.Keys(t.at))
	paths[0] = "/"
	return paths
}

// Nodes tells how many nodes there are.
func (t *Tree) Nodes() int {
	n := len(t.at)
	for _, x := range t.at {
		n += chunks(len(x.data))
	}
	return n
}

// Do gives the answer to an operation.
func (t *Tree) Do(o api.Op) api.Answer {
	var a api.Answer
	switch o.Kind {
	case api.OpCreate:
		a.Code = t.make(o.Path, api.File)
	case api.OpMkdir:
		a.Code = t.make(o.Path, api.Dir)
	case api.OpOpen:
		a.N, a.Code = t.opens(o.Path)
	case api.OpClose:
		a.Code = t.close(o.H)
	case api.OpRead:
		a.Data, a.Code = t.read(o.H, o.Off, o.N)
		a.N = len(a.Data)
	case api.OpWrite:
		if a.Code = t.write(o.H, o.Off, o.Data); a.Code == api.OK {
			a.N = len(o.Data)
		}
	case api.OpTruncate:
		a.Code = t.truncate(o.H, o.N)
	case api.OpRename:
		a.Code = t.rename(o.Path, o.To)
	case api.OpUnlink:
		a.Code = t.unlink(o.Path)
	case api.OpRmdir:
		a.Code = t.rmdir(o.Path)
	case api.OpList:
		a.Names, a.Code = t.list(o.Path)
		a.N = len(a.Names)
	case api.OpStat:
		a.Kind, a.N, a.Code = t.stat(o.Path)
	case api.OpSync:
		a.Code = t.sync()
	default:
		a.Code = api.ErrArg
	}
	return a
}

// sync lets all be kept.
func (t *Tree) sync() api.Errno {
	if t.changed && t.Nodes() > t.limit() {
		return api.ErrNoSpace
	}
	t.changed = false
	return api.OK
}
