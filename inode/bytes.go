package inode

import (
	"keelson/api"
	"keelson/pack"
)

// maxBytes are the most bytes that an inode has: those of a full directory with the longest names.
const maxBytes = 2 + api.MaxEntries*(2+api.MaxName)

// Write puts an inode into bytes.
func Write(n api.Inode) ([]byte, api.Errno) {
	if e := Check(n); e != api.OK {
		return nil, e
	}
	kind := pack.Num(1, uint64(n.Kind))
	if n.Kind == api.File {
		return pack.Join(kind, pack.Num(2, uint64(n.Size))), api.OK
	}
	parts := [][]byte{kind, pack.Num(1, uint64(len(n.Entries)))}
	for _, e := range n.Entries {
		parts = append(parts, pack.Nums(1, uint64(e.Inode), uint64(len(e.Name))), []byte(e.Name))
	}
	return pack.Join(parts...), api.OK
}

// Read gives the inode of bytes.
func Read(b []byte) (api.Inode, api.Errno) {
	if len(b) > maxBytes {
		return api.Inode{}, api.ErrForm
	}
	r := pack.NewReader(b)
	n := api.Inode{Kind: int(r.Num(1))}
	switch n.Kind {
	case api.File:
		n.Size = int(r.Num(2))
	case api.Dir:
		n.Entries = readEntries(r)
	}
	if r.Bad() || r.Left() > 0 || Check(n) != api.OK {
		return api.Inode{}, api.ErrForm
	}
	return n, api.OK
}

// readEntries reads as many entries as are told; whether they are right isn't looked at.
func readEntries(r *pack.Reader) []api.Entry {
	var entries []api.Entry
	for range r.Num(1) {
		inode, size := int(r.Num(1)), int(r.Num(1))
		entries = append(entries, api.Entry{Name: string(r.Bytes(size)), Inode: inode})
	}
	return entries
}
