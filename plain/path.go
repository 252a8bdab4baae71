package plain

import (
	"maps"
	"slices"
	"strings"

	"keelson/api"
)

// cut gives a path without its last name, and that; the top is the empty path.
func cut(path string) (string, string) {
	i := strings.LastIndex(path, "/")
	return path[:i], path[i+1:]
}

// isPath tells by layer 17's words whether a text is a path.
func isPath(path string) bool {
	if path == "/" {
		return true
	}
	names := strings.Split(path, "/")
	for _, s := range names[1:] {
		if len(s) < 1 || len(s) > 12 || s == "." || s == ".." || strings.Contains(s, "\x00") {
			return false
		}
	}
	return names[0] == "" && len(names) >= 2 && len(names) <= 7
}

// come gives what is at a path, of which the top is the empty one.
func (t *Tree) come(path string) (*thing, api.Errno) {
	if path == "" {
		return t.at[""], api.OK
	}
	dir, _ := cut(path)
	up, e := t.come(dir)
	switch {
	case e != api.OK:
		return nil, e
	case up.kind != api.Dir:
		return nil, api.ErrNotDir
	case t.at[path] == nil:
		return nil, api.ErrNone
	}
	return t.at[path], api.OK
}

// find gives what is at a path as it is spelt.
func (t *Tree) find(path string) (*thing, api.Errno) {
	if !isPath(path) {
		return nil, api.ErrName
	}
	return t.come(strings.TrimSuffix(path, "/"))
}

// file gives the file at a path.
func (t *Tree) file(path string) (*thing, api.Errno) {
	x, e := t.find(path)
	if e == api.OK && x.kind == api.Dir {
		return nil, api.ErrIsDir
	}
	return x, e
}

// names gives the names in a directory, rising.
func (t *Tree) names(dir string) []string {
	var list []string
	for path := range t.at {
		if path != "" {
			if up, name := cut(path); up == strings.TrimSuffix(dir, "/") {
				list = append(list, name)
			}
		}
	}
	slices.Sort(list)
	return list
}

// vacant tells what is wrong with a path at which there is to be something.
func (t *Tree) vacant(path string) api.Errno {
	dir, _ := cut(path)
	up, e := t.come(dir)
	switch {
	case e != api.OK:
		return e
	case up.kind != api.Dir:
		return api.ErrNotDir
	case t.at[path] != nil:
		return api.ErrExists
	}
	return api.OK
}

func (t *Tree) make(path string, kind int) api.Errno {
	if !isPath(path) {
		return api.ErrName
	}
	if path == "/" {
		return api.ErrExists
	}
	if e := t.vacant(path); e != api.OK {
		return e
	}
	dir, _ := cut(path)
	switch {
	case len(t.at) == 24:
		return api.ErrNoSpace
	case len(t.names(dir)) == 8:
		return api.ErrMany
	case t.Nodes() >= t.limit():
		return api.ErrNoSpace
	}
	t.at[path], t.changed = &thing{kind: kind}, true
	return api.OK
}

func (t *Tree) rename(from, to string) api.Errno {
	switch {
	case !isPath(from) || !isPath(to):
		return api.ErrName
	case from == "/" || to == "/":
		return api.ErrArg
	}
	_, e := t.come(from)
	switch {
	case e != api.OK:
		return e
	case from == to:
		return api.OK
	case strings.HasPrefix(to, from+"/"):
		return api.ErrLoop
	}
	if e := t.vacant(to); e != api.OK {
		return e
	}
	next := &Tree{at: maps.Clone(t.at)}
	for path, x := range t.at {
		if path == from || strings.HasPrefix(path, from+"/") {
			moved := to + path[len(from):]
			if strings.Count(moved, "/") > 6 {
				return api.ErrName
			}
			delete(next.at, path)
			next.at[moved] = x
		}
	}
	if dir, _ := cut(to); len(next.names(dir)) > 8 {
		return api.ErrMany
	}
	t.at, t.changed = next.at, true
	return api.OK
}

func (t *Tree) unlink(path string) api.Errno {
	x, e := t.file(path)
	switch {
	case e != api.OK:
		return e
	case slices.Contains(t.open[:], x):
		return api.ErrBusy
	}
	delete(t.at, path)
	t.changed = true
	return api.OK
}

func (t *Tree) rmdir(path string) api.Errno {
	if !isPath(path) {
		return api.ErrName
	}
	if path == "/" {
		return api.ErrArg
	}
	x, e := t.come(path)
	switch {
	case e != api.OK:
		return e
	case x.kind != api.Dir:
		return api.ErrNotDir
	case len(t.names(path)) > 0:
		return api.ErrNotEmpty
	}
	delete(t.at, path)
	t.changed = true
	return api.OK
}

func (t *Tree) list(path string) ([]string, api.Errno) {
	x, e := t.find(path)
	switch {
	case e != api.OK:
		return nil, e
	case x.kind != api.Dir:
		return nil, api.ErrNotDir
	}
	return t.names(path), api.OK
}

func (t *Tree) stat(path string) (int, int, api.Errno) {
	x, e := t.find(path)
	switch {
	case e != api.OK:
		return 0, 0, e
	case x.kind == api.Dir:
		return api.Dir, len(t.names(path)), api.OK
	}
	return api.File, len(x.data), api.OK
}
