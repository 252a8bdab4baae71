package tree_test

import (
	"bytes"
	"maps"
	"math"
	"slices"
	"strings"
	"testing"

	"keelson/api"
	"keelson/cache"
	"keelson/tree"
)

// oddKinds are numbers that no kind of an inode is.
var oddKinds = []int{0, 3, -1, 4, 257, 1 << 32, 1<<32 + 1, math.MaxInt, math.MinInt, math.MinInt + 1}

// wrongPaths are texts that no path is.
var wrongPaths = []string{"", "a", "//", "/a/", "//a", "/a//b", "/.", "/..", "/a/..", "/\x00", "/thirteen-byte", "/a/b/c/d/e/f/g", "a/b", " /a", "/a/b/c/d/e/f/"}

// shelf is a source that hands out its nodes as they stand; of some keys it tells faults.
type shelf struct {
	nodes  map[int][]byte
	faults map[int]api.Errno
	limit  int
}

func (s *shelf) Node(key int) ([]byte, api.Errno) {
	if e := s.faults[key]; e != api.OK {
		return []byte("beside an error"), e
	}
	b, ok := s.nodes[key]
	if !ok {
		return nil, api.ErrNone
	}
	return b, api.OK
}

func (s *shelf) Live() api.Live {
	var l api.Live
	for key := range s.nodes {
		l[key/8] |= 1 << (key % 8)
	}
	return l
}

func (s *shelf) Limit() int { return s.limit }

// newShelf gives a shelf without nodes.
func newShelf(limit int) *shelf {
	return &shelf{nodes: map[int][]byte{}, faults: map[int]api.Errno{}, limit: limit}
}

// item is what is at a path.
type item struct{ kind, number, size int }

// plain is a tree by the chapter's words: what is at each path; the top is at the empty one.
type plain struct {
	items  map[string]item
	broken map[int]api.Errno // inodes that can't be read
	gone   map[int]bool      // those of them that have no node
	limit  int
}

// newPlain gives the tree that has the top alone.
func newPlain(limit int) *plain {
	return &plain{map[string]item{"": {kind: api.Dir, number: 1}}, map[int]api.Errno{}, map[int]bool{}, limit}
}

func (p *plain) clone() *plain {
	return &plain{maps.Clone(p.items), maps.Clone(p.broken), maps.Clone(p.gone), p.limit}
}

// cut gives a path without its last name, and that; the top is the empty path.
func cut(path string) (string, string) {
	i := strings.LastIndex(path, "/")
	return path[:i], path[i+1:]
}

// isPath tells by layer 17's words whether a text is a path.
func isPath(path string) bool {
	if path == "/" {
		return true
	}
	names := strings.Split(path, "/")
	for _, s := range names[1:] {
		if len(s) < 1 || len(s) > 12 || s == "." || s == ".." || strings.Contains(s, "\x00") {
			return false
		}
	}
	return names[0] == "" && len(names) >= 2 && len(names) <= 7
}

// at gives what is at a path, read as layer 20 does.
func (p *plain) at(path string) (item, api.Errno) {
	x := p.items[path]
	if e := p.broken[x.number]; e != api.OK {
		return item{}, e
	}
	return x, api.OK
}

// come gives what is at a path, once all of those ahead of it are read.
func (p *plain) come(path string) (item, api.Errno) {
	if path == "" {
		return p.at("")
	}
	dir, _ := cut(path)
	up, e := p.come(dir)
	if e != api.OK {
		return item{}, e
	}
	if up.kind != api.Dir {
		return item{}, api.ErrNotDir
	}
	if _, ok := p.items[path]; !ok {
		return item{}, api.ErrNone
	}
	return p.at(path)
}

// entries gives the paths in a directory, by rising names.
func (p *plain) entries(dir string) []string {
	var list []string
	for path := range p.items {
		if path != "" {
			if up, _ := cut(path); up == dir {
				list = append(list, path)
			}
		}
	}
	slices.Sort(list)
	return list
}

// body gives the bytes of an inode, by layer 18's words.
func (p *plain) body(path string) []byte {
	x := p.items[path]
	if x.kind == api.File {
		return []byte{1, byte(x.size), byte(x.size >> 8)}
	}
	list := p.entries(path)
	b := []byte{2, byte(len(list))}
	for _, s := range list {
		_, name := cut(s)
		b = append(b, byte(p.items[s].number), byte(len(name)))
		b = append(b, name...)
	}
	return b
}

// inode gives the inode at a path.
func (p *plain) inode(path string) api.Inode {
	x := p.items[path]
	n := api.Inode{Kind: x.kind, Size: x.size}
	for _, s := range p.entries(path) {
		_, name := cut(s)
		n.Entries = append(n.Entries, api.Entry{Name: name, Inode: p.items[s].number})
	}
	return n
}

// nodes gives how many nodes there are.
func (p *plain) nodes() int {
	n := 0
	for _, x := range p.items {
		if !p.gone[x.number] {
			n++
		}
		n += (x.size + 127) / 128
	}
	return n
}

// find gives what is at a path, as the one handed in is spelt.
func (p *plain) find(path string) (item, api.Errno) {
	if !isPath(path) {
		return item{}, api.ErrName
	}
	return p.come(strings.TrimSuffix(path, "/"))
}

// vacant tells what is wrong with a path at which there is to be something.
func (p *plain) vacant(path string) api.Errno {
	dir, _ := cut(path)
	up, e := p.come(dir)
	if e != api.OK {
		return e
	}
	if up.kind != api.Dir {
		return api.ErrNotDir
	}
	if _, ok := p.items[path]; ok {
		return api.ErrExists
	}
	return api.OK
}

func (p *plain) make(path string, kind int) (int, api.Errno) {
	switch {
	case !isPath(path):
		return 0, api.ErrName
	case kind != 1 && kind != 2:
		return 0, api.ErrArg
	case path == "/":
		return 0, api.ErrExists
	}
	if e := p.vacant(path); e != api.OK {
		return 0, e
	}
	used := map[int]bool{}
	for _, x := range p.items {
		used[x.number] = used[x.number] || !p.gone[x.number]
	}
	number := 1
	for used[number] {
		number++
	}
	dir, _ := cut(path)
	switch {
	case number > 24:
		return 0, api.ErrNoSpace
	case len(p.entries(dir)) == 8:
		return 0, api.ErrMany
	case p.nodes()+1 > p.limit:
		return 0, api.ErrNoSpace
	}
	p.items[path] = item{kind: kind, number: number}
	return number, api.OK
}

func (p *plain) remove(path string, kind int) api.Errno {
	if !isPath(path) {
		return api.ErrName
	}
	if kind != 1 && kind != 2 || path == "/" {
		return api.ErrArg
	}
	x, e := p.come(path)
	switch {
	case e != api.OK:
		return e
	case x.kind == 2 && kind == 1:
		return api.ErrIsDir
	case x.kind == 1 && kind == 2:
		return api.ErrNotDir
	case len(p.entries(path)) > 0:
		return api.ErrNotEmpty
	}
	delete(p.items, path)
	return api.OK
}

// beneath gives the first error of what is beneath a path, directory by directory.
func (p *plain) beneath(path string) api.Errno {
	for _, s := range p.entries(path) {
		if _, e := p.at(s); e != api.OK {
			return e
		}
	}
	for _, s := range p.entries(path) {
		if e := p.beneath(s); e != api.OK {
			return e
		}
	}
	return api.OK
}

func (p *plain) rename(from, to string) api.Errno {
	switch {
	case !isPath(from) || !isPath(to):
		return api.ErrName
	case from == "/" || to == "/":
		return api.ErrArg
	}
	_, e := p.come(from)
	switch {
	case e != api.OK:
		return e
	case from == to:
		return api.OK
	case strings.HasPrefix(to, from+"/"):
		return api.ErrLoop
	}
	if e := p.vacant(to); e != api.OK {
		return e
	}
	if e := p.beneath(from); e != api.OK {
		return e
	}
	next := maps.Clone(p.items)
	for path, x := range p.items {
		if path == from || strings.HasPrefix(path, from+"/") {
			moved := to + path[len(from):]
			if strings.Count(moved, "/") > 6 {
				return api.ErrName
			}
			delete(next, path)
			next[moved] = x
		}
	}
	behind := &plain{items: next}
	if dir, _ := cut(to); len(behind.entries(dir)) > 8 {
		return api.ErrMany
	}
	p.items = next
	return api.OK
}

func (p *plain) list(path string) ([]string, api.Errno) {
	x, e := p.find(path)
	if e != api.OK {
		return nil, e
	}
	if x.kind != 2 {
		return nil, api.ErrNotDir
	}
	var names []string
	for _, s := range p.entries(strings.TrimSuffix(path, "/")) {
		_, name := cut(s)
		names = append(names, name)
	}
	return names, api.OK
}

// pair is a cache, and what should be in it.
type pair struct {
	t *testing.T
	c *cache.Cache
	p *plain
}

// fresh gives a pair over an empty shelf, with the top.
func fresh(t *testing.T, limit int) *pair {
	t.Helper()
	x := &pair{t, cache.New(newShelf(limit)), newPlain(limit)}
	wants(t, "Format", tree.Format(x.c), api.OK)
	return x
}

// wants tells of an error that isn't the one wanted.
func wants(t *testing.T, what string, got, e api.Errno) {
	t.Helper()
	if got != e {
		t.Errorf("%s: %v, not %v", what, got, e)
	}
}

// holds tells unless the nodes are as they should be.
func (x *pair) holds() {
	x.t.Helper()
	nodes := map[int][]byte{}
	for path, y := range x.p.items {
		nodes[y.number] = x.p.body(path)
	}
	for number := 1; number <= 24; number++ {
		b, e := x.c.Get(8 * number)
		want, there := nodes[number]
		switch {
		case x.p.broken[number] != api.OK:
			continue
		case there && (e != api.OK || !bytes.Equal(b, want)), !there && e != api.ErrNone:
			x.t.Errorf("the inode %d: %q, %v, not %q", number, b, e, want)
		}
	}
	n := 0
	for _, b := range x.c.Live() {
		for ; b > 0; b &= b - 1 {
			n++
		}
	}
	if n != x.p.nodes() {
		x.t.Errorf("%d nodes, not %d", n, x.p.nodes())
	}
}

func (x *pair) finds(path string) api.Errno {
	x.t.Helper()
	number, n, e := tree.Find(x.c, path)
	y, f := x.p.find(path)
	var want api.Inode
	if f == api.OK {
		want = x.p.inode(strings.TrimSuffix(path, "/"))
	}
	if number != y.number || e != f || n.Kind != want.Kind || n.Size != want.Size || !slices.Equal(n.Entries, want.Entries) {
		x.t.Errorf("Find(%q): %d, %v, %v, not %d, %v, %v", path, number, n, e, y.number, want, f)
	}
	return e
}

func (x *pair) lists(path string) api.Errno {
	x.t.Helper()
	names, e := tree.List(x.c, path)
	if want, f := x.p.list(path); !slices.Equal(names, want) || e != f {
		x.t.Errorf("List(%q): %q, %v, not %q, %v", path, names, e, want, f)
	}
	return e
}

func (x *pair) makes(path string, kind int) api.Errno {
	x.t.Helper()
	number, e := tree.Make(x.c, path, kind)
	if want, f := x.p.make(path, kind); number != want || e != f {
		x.t.Errorf("Make(%q, %d): %d, %v, not %d, %v", path, kind, number, e, want, f)
	}
	x.holds()
	return e
}

func (x *pair) removes(path string, kind int) api.Errno {
	x.t.Helper()
	e := tree.Remove(x.c, path, kind)
	if f := x.p.remove(path, kind); e != f {
		x.t.Errorf("Remove(%q, %d): %v, not %v", path, kind, e, f)
	}
	x.holds()
	return e
}

func (x *pair) renames(from, to string) api.Errno {
	x.t.Helper()
	e := tree.Rename(x.c, from, to)
	if f := x.p.rename(from, to); e != f {
		x.t.Errorf("Rename(%q, %q): %v, not %v", from, to, e, f)
	}
	x.holds()
	return e
}
