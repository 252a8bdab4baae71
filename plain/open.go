package plain

import (
	"bytes"
	"slices"

	"keelson/api"
)

// maxSize is how many bytes a file may have.
const maxSize = api.MaxChunks * api.Chunk

// chunks tells in how many nodes so many bytes stand.
func chunks(size int) int { return (size + api.Chunk - 1) / api.Chunk }

func (t *Tree) opens(path string) (int, api.Errno) {
	x, e := t.file(path)
	if e != api.OK {
		return 0, e
	}
	h := slices.Index(t.open[:], nil)
	if h < 0 {
		return 0, api.ErrMany
	}
	t.open[h] = x
	return h + 1, api.OK
}

// handle gives what a handle is of.
func (t *Tree) handle(h int) (*thing, api.Errno) {
	if h < 1 || h > len(t.open) || t.open[h-1] == nil {
		return nil, api.ErrHandle
	}
	return t.open[h-1], api.OK
}

func (t *Tree) close(h int) api.Errno {
	_, e := t.handle(h)
	if e == api.OK {
		t.open[h-1] = nil
	}
	return e
}

func (t *Tree) read(h, off, n int) ([]byte, api.Errno) {
	x, e := t.handle(h)
	switch {
	case e != api.OK:
		return nil, e
	case off < 0 || n < 0:
		return nil, api.ErrArg
	case off > len(x.data):
		return nil, api.OK
	}
	data := x.data[off:]
	return bytes.Clone(data[:min(n, len(data))]), api.OK
}

// become lets a file have other bytes, if there is room for them.
func (t *Tree) become(x *thing, data []byte) api.Errno {
	more := chunks(len(data)) - chunks(len(x.data))
	if more > 0 && t.Nodes()+more > t.limit() {
		return api.ErrNoSpace
	}
	x.data, t.changed = data, true
	return api.OK
}

// sized gives a copy of some bytes that has another length.
func sized(data []byte, size int) []byte {
	return append(bytes.Clone(data), make([]byte, maxSize)...)[:size]
}

func (t *Tree) write(h, off int, data []byte) api.Errno {
	x, e := t.handle(h)
	switch {
	case e != api.OK:
		return e
	case off < 0:
		return api.ErrArg
	case len(data) == 0:
		return api.OK
	case off > maxSize || len(data) > maxSize || off+len(data) > maxSize:
		return api.ErrBig
	}
	all := sized(x.data, max(len(x.data), off+len(data)))
	copy(all[off:], data)
	return t.become(x, all)
}

func (t *Tree) truncate(h, size int) api.Errno {
	x, e := t.handle(h)
	switch {
	case e != api.OK:
		return e
	case size < 0:
		return api.ErrArg
	case size > maxSize:
		return api.ErrBig
	case size == len(x.data):
		return api.OK
	}
	return t.become(x, sized(x.data, size))
}
