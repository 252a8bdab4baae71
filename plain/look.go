package plain

import (
	"bytes"
	"math"
	"slices"

	"keelson/api"
)

// Same tells whether two answers are one.
func Same(a, b api.Answer) bool {
	return a.Code == b.Code && a.N == b.N && a.Kind == b.Kind && bytes.Equal(a.Data, b.Data) && slices.Equal(a.Names, b.Names)
}

// Read gives the tree that files tell by their answers, none of which is open; what can't be read is of no kind.
func Read(do func(o api.Op) api.Answer) Kept {
	k := Kept{}
	read(k, "", do)
	return k
}

// read lets a tree have what is at a path, and beneath it.
func read(k Kept, path string, do func(o api.Op) api.Answer) {
	full := path
	if path == "" {
		full = "/"
	}
	stat := do(api.Op{Kind: api.OpStat, Path: full})
	if stat.Kind == api.File {
		k[path] = file(path, stat.N, do)
		return
	}
	list := do(api.Op{Kind: api.OpList, Path: full})
	if stat.Code == api.OK && list.Code == api.OK && stat.N == len(list.Names) {
		k[path] = Item{Kind: stat.Kind}
	} else {
		k[path] = Item{Data: stat.Code.Error() + ", " + list.Code.Error()}
	}
	for _, name := range list.Names {
		read(k, path+"/"+name, do)
	}
}

// file gives the file at a path, of so many bytes.
func file(path string, size int, do func(o api.Op) api.Answer) Item {
	h := do(api.Op{Kind: api.OpOpen, Path: path})
	a := do(api.Op{Kind: api.OpRead, H: h.N, N: math.MaxInt})
	done := do(api.Op{Kind: api.OpClose, H: h.N})
	if h.N != 1 || a.Code != api.OK || a.N != size || len(a.Data) != size || done.Code != api.OK {
		return Item{Data: h.Code.Error() + ", " + a.Code.Error() + ", " + done.Code.Error()}
	}
	return Item{Kind: api.File, Data: string(a.Data)}
}

// Walk does operations that look at all that is there.
func (t *Tree) Walk(do func(o api.Op) api.Answer) {
	for _, path := range t.Paths() {
		stat := do(api.Op{Kind: api.OpStat, Path: path})
		do(api.Op{Kind: api.OpList, Path: path})
		if a := do(api.Op{Kind: api.OpOpen, Path: path}); stat.Kind == api.File && a.Code == api.OK {
			do(api.Op{Kind: api.OpRead, H: a.N, N: math.MaxInt})
			do(api.Op{Kind: api.OpClose, H: a.N})
		}
	}
}
