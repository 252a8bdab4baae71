// Package pack is layer 1: see shared/doc/01-pack.md.
package pack

// Join puts texts one behind the other.
func Join(parts ...[]byte) []byte {
	size := 0
	for _, part := range parts {
		size += len(part)
	}
	all := make([]byte, 0, size)
	for _, part := range parts {
		all = append(all, part...)
	}
	return all
}

// Num gives a number as so many bytes.
func Num(size int, n uint64) []byte {
	b := make([]byte, width(size))
	for i := range b {
		b[i] = byte(n >> (8 * i))
	}
	return b
}

// Nums gives numbers as so many bytes each.
func Nums(size int, list ...uint64) []byte {
	all := make([]byte, 0, width(size)*len(list))
	for _, n := range list {
		all = append(all, Num(size, n)...)
	}
	return all
}

// width gives how many bytes a number has that is to have size bytes.
func width(size int) int {
	return min(max(size, 0), 8)
}

// Reader reads bytes from their beginning on.
type Reader struct {
	left []byte
	bad  bool
}

// NewReader gives a Reader of bytes.
func NewReader(b []byte) *Reader {
	// b may be written over behind this call, so the Reader has bytes of its own.
	return &Reader{left: Join(b)}
}

// Num reads a number of so many bytes.
func (r *Reader) Num(size int) uint64 {
	n := uint64(0)
	for i, b := range r.take(width(size)) {
		n |= uint64(b) << (8 * i)
	}
	return n
}

// Bytes reads so many bytes.
func (r *Reader) Bytes(n int) []byte {
	// The bytes are copied: what is answered mustn't share memory with what is still to be read.
	return Join(r.take(max(n, 0)))
}

// Left tells how many bytes are left.
func (r *Reader) Left() int { return len(r.left) }

// Bad tells whether more was read than there was.
func (r *Reader) Bad() bool { return r.bad }

// take gives the next n bytes as they stand, none if there are fewer.
func (r *Reader) take(n int) []byte {
	if n > len(r.left) {
		r.left, r.bad = nil, true
		return nil
	}
	next := r.left[:n]
	r.left = r.left[n:]
	return next
}
