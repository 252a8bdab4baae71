package fs_test

import (
	"bytes"
	"maps"
	"slices"
	"strings"

	"keelson/api"
)

// wrongPaths are texts that no path is.
var wrongPaths = []string{"", "a", "//", "/a/", "//a", "/a//b", "/.", "/..", "/a/..", "/\x00", "/thirteen-byte", "/a/b/c/d/e/f/g", "a/b", " /a", "/a/b/c/d/e/f/"}

// thing is a file, with its bytes, or a directory.
type thing struct {
	kind int
	data []byte
}

// plain is a tree of files in memory, by the chapters' words: what is at each path, the top at the empty one; what the handles are of.
type plain struct {
	at      map[string]*thing
	open    [6]*thing
	changed bool // since the last OpSync
	limit   func() int
}

// kept is a tree as it is kept: of each path a d, or an f and the bytes.
type kept map[string]string

// empty is the tree that has the top alone.
var empty = kept{"": "d"}

// in tells whether a tree is among some.
func (k kept) in(list []kept) bool {
	return slices.ContainsFunc(list, func(x kept) bool { return maps.Equal(k, x) })
}

// newPlain gives a tree without handles.
func newPlain(k kept, limit func() int) *plain {
	p := &plain{at: map[string]*thing{}, limit: limit}
	for path, s := range k {
		p.at[path] = &thing{kind: api.Dir}
		if s[0] == 'f' {
			p.at[path] = &thing{api.File, []byte(s[1:])}
		}
	}
	return p
}

// kept gives the tree as it would be kept now.
func (p *plain) kept() kept {
	k := kept{}
	for path, x := range p.at {
		k[path] = "d"
		if x.kind == api.File {
			k[path] = "f" + string(x.data)
		}
	}
	return k
}

// cut gives a path without its last name, and that; the top is the empty path.
func cut(path string) (string, string) {
	i := strings.LastIndex(path, "/")
	return path[:i], path[i+1:]
}

// isPath tells by layer 17's words whether a text is a path.
func isPath(path string) bool {
	if path == "/" {
		return true
	}
	names := strings.Split(path, "/")
	for _, s := range names[1:] {
		if len(s) < 1 || len(s) > 12 || s == "." || s == ".." || strings.Contains(s, "\x00") {
			return false
		}
	}
	return names[0] == "" && len(names) >= 2 && len(names) <= 7
}

// come gives what is at a path, of which the top is the empty one.
func (p *plain) come(path string) (*thing, api.Errno) {
	if path == "" {
		return p.at[""], api.OK
	}
	dir, _ := cut(path)
	up, e := p.come(dir)
	switch {
	case e != api.OK:
		return nil, e
	case up.kind != api.Dir:
		return nil, api.ErrNotDir
	case p.at[path] == nil:
		return nil, api.ErrNone
	}
	return p.at[path], api.OK
}

// find gives what is at a path as it is spelt.
func (p *plain) find(path string) (*thing, api.Errno) {
	if !isPath(path) {
		return nil, api.ErrName
	}
	return p.come(strings.TrimSuffix(path, "/"))
}

// file gives the file at a path.
func (p *plain) file(path string) (*thing, api.Errno) {
	x, e := p.find(path)
	if e == api.OK && x.kind == api.Dir {
		return nil, api.ErrIsDir
	}
	return x, e
}

// names gives the names in a directory, rising.
func (p *plain) names(dir string) []string {
	var list []string
	for path := range p.at {
		if path != "" {
			if up, name := cut(path); up == strings.TrimSuffix(dir, "/") {
				list = append(list, name)
			}
		}
	}
	slices.Sort(list)
	return list
}

// chunks tells in how many nodes so many bytes stand.
func chunks(size int) int { return (size + 127) / 128 }

// nodes tells how many nodes there are.
func (p *plain) nodes() int {
	n := len(p.at)
	for _, x := range p.at {
		n += chunks(len(x.data))
	}
	return n
}

// vacant tells what is wrong with a path at which there is to be something.
func (p *plain) vacant(path string) api.Errno {
	dir, _ := cut(path)
	up, e := p.come(dir)
	switch {
	case e != api.OK:
		return e
	case up.kind != api.Dir:
		return api.ErrNotDir
	case p.at[path] != nil:
		return api.ErrExists
	}
	return api.OK
}

func (p *plain) make(path string, kind int) api.Errno {
	if !isPath(path) {
		return api.ErrName
	}
	if path == "/" {
		return api.ErrExists
	}
	if e := p.vacant(path); e != api.OK {
		return e
	}
	dir, _ := cut(path)
	switch {
	case len(p.at) == 24:
		return api.ErrNoSpace
	case len(p.names(dir)) == 8:
		return api.ErrMany
	case p.nodes() >= p.limit():
		return api.ErrNoSpace
	}
	p.at[path], p.changed = &thing{kind: kind}, true
	return api.OK
}

func (p *plain) opens(path string) (int, api.Errno) {
	x, e := p.file(path)
	if e != api.OK {
		return 0, e
	}
	for i := range p.open {
		if p.open[i] == nil {
			p.open[i] = x
			return i + 1, api.OK
		}
	}
	return 0, api.ErrMany
}

// handle gives what a handle is of.
func (p *plain) handle(h int) (*thing, api.Errno) {
	if h < 1 || h > 6 || p.open[h-1] == nil {
		return nil, api.ErrHandle
	}
	return p.open[h-1], api.OK
}

func (p *plain) close(h int) api.Errno {
	_, e := p.handle(h)
	if e == api.OK {
		p.open[h-1] = nil
	}
	return e
}

func (p *plain) read(h, off, n int) ([]byte, api.Errno) {
	x, e := p.handle(h)
	switch {
	case e != api.OK:
		return nil, e
	case off < 0 || n < 0:
		return nil, api.ErrArg
	case off > len(x.data):
		return nil, api.OK
	}
	data := x.data[off:]
	return bytes.Clone(data[:min(n, len(data))]), api.OK
}

// become lets a file have other bytes, if there is room for them.
func (p *plain) become(x *thing, data []byte) api.Errno {
	more := chunks(len(data)) - chunks(len(x.data))
	if more > 0 && p.nodes()+more > p.limit() {
		return api.ErrNoSpace
	}
	x.data, p.changed = data, true
	return api.OK
}

// sized gives a copy of some bytes that has another length.
func sized(data []byte, size int) []byte {
	return append(bytes.Clone(data), make([]byte, 768)...)[:size]
}

func (p *plain) write(h, off int, data []byte) api.Errno {
	x, e := p.handle(h)
	switch {
	case e != api.OK:
		return e
	case off < 0:
		return api.ErrArg
	case len(data) == 0:
		return api.OK
	case off > 768 || len(data) > 768 || off+len(data) > 768:
		return api.ErrBig
	}
	all := sized(x.data, max(len(x.data), off+len(data)))
	copy(all[off:], data)
	return p.become(x, all)
}

func (p *plain) truncate(h, size int) api.Errno {
	x, e := p.handle(h)
	switch {
	case e != api.OK:
		return e
	case size < 0:
		return api.ErrArg
	case size > 768:
		return api.ErrBig
	case size == len(x.data):
		return api.OK
	}
	return p.become(x, sized(x.data, size))
}

func (p *plain) rename(from, to string) api.Errno {
	switch {
	case !isPath(from) || !isPath(to):
		return api.ErrName
	case from == "/" || to == "/":
		return api.ErrArg
	}
	_, e := p.come(from)
	switch {
	case e != api.OK:
		return e
	case from == to:
		return api.OK
	case strings.HasPrefix(to, from+"/"):
		return api.ErrLoop
	}
	if e := p.vacant(to); e != api.OK {
		return e
	}
	next := &plain{at: maps.Clone(p.at)}
	for path, x := range p.at {
		if path == from || strings.HasPrefix(path, from+"/") {
			moved := to + path[len(from):]
			if strings.Count(moved, "/") > 6 {
				return api.ErrName
			}
			delete(next.at, path)
			next.at[moved] = x
		}
	}
	if dir, _ := cut(to); len(next.names(dir)) > 8 {
		return api.ErrMany
	}
	p.at, p.changed = next.at, true
	return api.OK
}

func (p *plain) unlink(path string) api.Errno {
	x, e := p.file(path)
	switch {
	case e != api.OK:
		return e
	case slices.Contains(p.open[:], x):
		return api.ErrBusy
	}
	delete(p.at, path)
	p.changed = true
	return api.OK
}

func (p *plain) rmdir(path string) api.Errno {
	if !isPath(path) {
		return api.ErrName
	}
	if path == "/" {
		return api.ErrArg
	}
	x, e := p.come(path)
	switch {
	case e != api.OK:
		return e
	case x.kind != api.Dir:
		return api.ErrNotDir
	case len(p.names(path)) > 0:
		return api.ErrNotEmpty
	}
	delete(p.at, path)
	p.changed = true
	return api.OK
}

func (p *plain) list(path string) ([]string, api.Errno) {
	x, e := p.find(path)
	switch {
	case e != api.OK:
		return nil, e
	case x.kind != api.Dir:
		return nil, api.ErrNotDir
	}
	return p.names(path), api.OK
}

func (p *plain) stat(path string) (int, int, api.Errno) {
	x, e := p.find(path)
	switch {
	case e != api.OK:
		return 0, 0, e
	case x.kind == api.Dir:
		return api.Dir, len(p.names(path)), api.OK
	}
	return api.File, len(x.data), api.OK
}

func (p *plain) sync() api.Errno {
	if p.changed && p.nodes() > p.limit() {
		return api.ErrNoSpace
	}
	p.changed = false
	return api.OK
}

// do gives the answer to an operation.
func (p *plain) do(o api.Op) api.Answer {
	var a api.Answer
	switch o.Kind {
	case api.OpCreate:
		a.Code = p.make(o.Path, api.File)
	case api.OpMkdir:
		a.Code = p.make(o.Path, api.Dir)
	case api.OpOpen:
		a.N, a.Code = p.opens(o.Path)
	case api.OpClose:
		a.Code = p.close(o.H)
	case api.OpRead:
		a.Data, a.Code = p.read(o.H, o.Off, o.N)
		a.N = len(a.Data)
	case api.OpWrite:
		if a.Code = p.write(o.H, o.Off, o.Data); a.Code == api.OK {
			a.N = len(o.Data)
		}
	case api.OpTruncate:
		a.Code = p.truncate(o.H, o.N)
	case api.OpRename:
		a.Code = p.rename(o.Path, o.To)
	case api.OpUnlink:
		a.Code = p.unlink(o.Path)
	case api.OpRmdir:
		a.Code = p.rmdir(o.Path)
	case api.OpList:
		a.Names, a.Code = p.list(o.Path)
		a.N = len(a.Names)
	case api.OpStat:
		a.Kind, a.N, a.Code = p.stat(o.Path)
	case api.OpSync:
		a.Code = p.sync()
	default:
		a.Code = api.ErrArg
	}
	return a
}
