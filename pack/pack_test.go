package pack

import (
	"bytes"
	"math"
	"testing"
)

// full gives b with spare room behind it, and all of that room filled, so that a write into it is seen.
func full(b ...byte) (part, whole []byte) {
	whole = append(bytes.Clone(b), 0xa5, 0xa5, 0xa5, 0xa5, 0xa5, 0xa5, 0xa5, 0xa5)
	return whole[:len(b)], whole
}

// spoil writes over all of b, its spare room too.
func spoil(b []byte) {
	b = b[:cap(b)]
	for i := range b {
		b[i] = ^b[i]
	}
}

// P1.1: Join.
func TestJoin(t *testing.T) {
	for _, c := range []struct {
		parts [][]byte
		want  string
	}{
		{nil, ""},
		{[][]byte{nil}, ""},
		{[][]byte{{}, nil, {}}, ""},
		{[][]byte{[]byte("a")}, "a"},
		{[][]byte{[]byte("ab"), nil, []byte("c"), {}, []byte("def")}, "abcdef"},
		{[][]byte{[]byte("def"), []byte("ab")}, "defab"},
		{[][]byte{{0, 255}, {0}, {128}}, "\x00\xff\x00\x80"},
	} {
		if got := Join(c.parts...); string(got) != c.want {
			t.Errorf("Join(%v): %v, not %v", c.parts, got, []byte(c.want))
		}
	}
	one := []byte("ab")
	if got := Join(one, one, one); string(got) != "ababab" {
		t.Errorf("one part three times: %q", got)
	}
}

// P1.1: Num, at each size, within the bounds and beyond them.
func TestNum(t *testing.T) {
	const n = 0x8877665544332211
	whole := []byte{0x11, 0x22, 0x33, 0x44, 0x55, 0x66, 0x77, 0x88}
	for size := range 9 {
		if got := Num(size, n); !bytes.Equal(got, whole[:size]) {
			t.Errorf("Num(%d): %v, not %v", size, got, whole[:size])
		}
	}
	for _, size := range []int{-1, -8, -9, math.MinInt32, math.MinInt} {
		if got := Num(size, n); len(got) != 0 {
			t.Errorf("Num(%d): %v, not nothing", size, got)
		}
	}
	for _, size := range []int{9, 16, 256, math.MaxInt32, math.MaxInt} {
		if got := Num(size, n); !bytes.Equal(got, whole) {
			t.Errorf("Num(%d): %v, not %v", size, got, whole)
		}
	}
	for _, c := range []struct {
		size int
		n    uint64
		want []byte
	}{
		{1, 0, []byte{0}},
		{1, 255, []byte{255}},
		{1, 256, []byte{0}},
		{2, 65535, []byte{255, 255}},
		{2, 65536 + 258, []byte{2, 1}},
		{8, 0, make([]byte, 8)},
		{8, math.MaxUint64, []byte{255, 255, 255, 255, 255, 255, 255, 255}},
		{8, 1 << 63, []byte{0, 0, 0, 0, 0, 0, 0, 128}},
	} {
		if got := Num(c.size, c.n); !bytes.Equal(got, c.want) {
			t.Errorf("Num(%d, %d): %v, not %v", c.size, c.n, got, c.want)
		}
	}
}

// P1.1: Nums is Num of each, one behind the other; the chapter's example.
func TestNums(t *testing.T) {
	if got := Nums(2, 1, 515); !bytes.Equal(got, []byte{1, 0, 3, 2}) {
		t.Errorf("Nums(2, 1, 515): %v", got)
	}
	list := []uint64{0, 1, 255, 256, 1<<32 + 7, math.MaxUint64}
	for _, size := range []int{math.MinInt, -1, 0, 1, 2, 3, 4, 7, 8, 9, math.MaxInt} {
		var want []byte
		for _, n := range list {
			want = append(want, Num(size, n)...)
		}
		if got := Nums(size, list...); !bytes.Equal(got, want) {
			t.Errorf("Nums(%d): %v, not %v", size, got, want)
		}
		if got := Nums(size); len(got) != 0 {
			t.Errorf("Nums(%d) of nothing: %v", size, got)
		}
	}
}

// P1.2: what is read is what was written, and Left falls by just that much.
func TestReaderReads(t *testing.T) {
	const n = 0xf1e2d3c4b5a69788
	for size := range 9 {
		r := NewReader(Join(Num(size, n), []byte("xy")))
		want := uint64(n)
		if size < 8 {
			want &= 1<<(8*size) - 1
		}
		if got := r.Num(size); got != want {
			t.Errorf("Num(%d): %x, not %x", size, got, want)
		}
		if r.Left() != 2 || r.Bad() {
			t.Errorf("Num(%d): Left %d, Bad %v", size, r.Left(), r.Bad())
		}
		if got := r.Bytes(2); string(got) != "xy" || r.Left() != 0 || r.Bad() {
			t.Errorf("behind Num(%d): %q, Left %d, Bad %v", size, got, r.Left(), r.Bad())
		}
	}
}

// P1.2: sizes out of bounds are taken as 0 and 8, a count below 0 as none.
func TestReaderSizes(t *testing.T) {
	for _, size := range []int{math.MinInt, -9, -1, 0} {
		r := NewReader([]byte{1, 2})
		if n := r.Num(size); n != 0 || r.Left() != 2 || r.Bad() {
			t.Errorf("Num(%d): %d, Left %d, Bad %v", size, n, r.Left(), r.Bad())
		}
		if b := r.Bytes(size); len(b) != 0 || r.Left() != 2 || r.Bad() {
			t.Errorf("Bytes(%d): %v, Left %d, Bad %v", size, b, r.Left(), r.Bad())
		}
	}
	for _, size := range []int{8, 9, 64, math.MaxInt} {
		r := NewReader([]byte{1, 0, 0, 0, 0, 0, 0, 2, 9})
		if n := r.Num(size); n != 2<<56+1 || r.Left() != 1 || r.Bad() {
			t.Errorf("Num(%d): %x, Left %d, Bad %v", size, n, r.Left(), r.Bad())
		}
	}
}

// P1.2: where there are fewer, all are gone, nothing is answered, and Bad stays.
func TestReaderShort(t *testing.T) {
	for left := range 8 {
		for _, size := range []int{left + 1, 8, math.MaxInt} {
			r := NewReader(bytes.Repeat([]byte{7}, left))
			if n := r.Num(size); n != 0 {
				t.Errorf("Num(%d) of %d bytes: %x", size, left, n)
			}
			gone(t, r)
			r = NewReader(bytes.Repeat([]byte{7}, left))
			if b := r.Bytes(size); len(b) != 0 {
				t.Errorf("Bytes(%d) of %d bytes: %v", size, left, b)
			}
			gone(t, r)
		}
	}
}

// gone tells of a Reader that was read beyond its end, and of what it answers from then on.
func gone(t *testing.T, r *Reader) {
	t.Helper()
	for range 2 {
		if r.Left() != 0 || !r.Bad() {
			t.Errorf("Left %d, Bad %v", r.Left(), r.Bad())
		}
		if r.Num(0) != 0 || r.Num(1) != 0 || len(r.Bytes(0)) != 0 || len(r.Bytes(1)) != 0 {
			t.Error("there is something behind the end")
		}
	}
}

// P1.2: to read nothing at the end isn't to read too much.
func TestReaderEnd(t *testing.T) {
	for _, r := range []*Reader{NewReader(nil), NewReader([]byte{}), NewReader([]byte{5})} {
		r.Bytes(r.Left())
		if r.Num(0) != 0 || r.Num(-1) != 0 || len(r.Bytes(0)) != 0 || len(r.Bytes(-1)) != 0 {
			t.Error("there is something at the end")
		}
		if r.Left() != 0 || r.Bad() {
			t.Errorf("Left %d, Bad %v", r.Left(), r.Bad())
		}
		if r.Num(1) != 0 || !r.Bad() {
			t.Error("a number behind the end")
		}
	}
}

// P1.3: parts and their spare room aren't changed.
func TestArgumentsStay(t *testing.T) {
	a, roomA := full(1, 2)
	b, roomB := full(3)
	list := append([]uint64{4, 5, 6}, 7, 8)
	Join(a, b)
	Join(a[:0], b)
	Nums(8, list[:3]...)
	spoil(Join(a))
	spoil(Join(a, b))
	spoil(Nums(8, list[:3]...))
	r := NewReader(a)
	r.Num(1)
	spoil(r.Bytes(1))
	r.Bytes(1)
	if !bytes.Equal(roomA, []byte{1, 2, 0xa5, 0xa5, 0xa5, 0xa5, 0xa5, 0xa5, 0xa5, 0xa5}) {
		t.Errorf("the first part: %v", roomA)
	}
	if !bytes.Equal(roomB, []byte{3, 0xa5, 0xa5, 0xa5, 0xa5, 0xa5, 0xa5, 0xa5, 0xa5}) {
		t.Errorf("the second part: %v", roomB)
	}
	for i, n := range list {
		if n != uint64(i+4) {
			t.Errorf("the list: %v", list)
		}
	}
}

// P1.3: a Reader doesn't keep the bytes that it was given.
func TestReaderKeepsNothing(t *testing.T) {
	b := []byte{1, 2, 3, 4}
	r := NewReader(b)
	spoil(b)
	if r.Num(2) != 0x0201 {
		t.Error("a number that was written over")
	}
	spoil(b)
	if got := r.Bytes(2); !bytes.Equal(got, []byte{3, 4}) {
		t.Errorf("bytes that were written over: %v", got)
	}
}

// P1.3: answers share no memory with one another, nor with what is still to be read.
func TestAnswersAreNew(t *testing.T) {
	r := NewReader([]byte{1, 2, 3, 4, 5, 6})
	first := r.Bytes(2)
	second := r.Bytes(2)
	spoil(first)
	if !bytes.Equal(second, []byte{3, 4}) {
		t.Errorf("the second answer: %v", second)
	}
	spoil(second)
	if !bytes.Equal(first, []byte{254, 253}) {
		t.Errorf("the first answer: %v", first)
	}
	if third := r.Bytes(2); !bytes.Equal(third, []byte{5, 6}) {
		t.Errorf("the third answer: %v", third)
	}
	for _, give := range []func() []byte{
		func() []byte { return Join([]byte{1, 2}, []byte{3}) },
		func() []byte { return Num(3, 0x030201) },
		func() []byte { return Nums(1, 1, 2, 3) },
	} {
		one := give()
		spoil(one)
		if two := give(); !bytes.Equal(two, []byte{1, 2, 3}) {
			t.Errorf("the second answer: %v", two)
		}
	}
}

// Rule 6: each Reader is by itself, also over the same bytes.
func TestReadersApart(t *testing.T) {
	b := []byte{1, 2, 3}
	one, two := NewReader(b), NewReader(b)
	one.Bytes(4)
	if two.Left() != 3 || two.Bad() || two.Num(3) != 0x030201 {
		t.Error("what was done to one Reader is seen in the other")
	}
}

// wild calls everything with sizes and counts of all kinds, and gives all that was answered.
func wild() []byte {
	var all []byte
	sizes := []int{math.MinInt, math.MinInt + 1, math.MinInt32, -9, -1, 0, 1, 2, 7, 8, 9, 255, math.MaxInt32, math.MaxInt - 1, math.MaxInt}
	b := []byte{9, 8, 7, 6, 5, 4, 3, 2, 1, 0, 255, 254, 253}
	for _, one := range sizes {
		all = Join(all, Num(one, math.MaxUint64-3), Nums(one, 1, 0, 1<<63), Nums(one))
		for _, two := range sizes {
			r := NewReader(b)
			all = Join(all, Num(8, r.Num(one)), r.Bytes(two), Num(8, uint64(r.Left())), Num(8, r.Num(two)), r.Bytes(one))
			if r.Bad() {
				all = Join(all, Num(1, 1))
			}
		}
	}
	return all
}

// P1, P2: no call panics, whatever it is given, and two runs of the same calls give the same answers.
func TestWild(t *testing.T) {
	one := wild()
	if two := wild(); !bytes.Equal(one, two) {
		t.Error("two runs differ")
	}
}
