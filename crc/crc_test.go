package crc

import (
	"bytes"
	"hash/crc32"
	"math"
	"testing"
)

// plain is the chapter's definition, bit by bit: what remains of the polynomial of b's bits behind rest.
func plain(rest uint32, b []byte) uint32 {
	for _, x := range b {
		for bit := range 8 {
			odd := (rest ^ uint32(x>>bit)) & 1
			rest >>= 1
			if odd == 1 {
				rest ^= 0xedb88320
			}
		}
	}
	return rest
}

// sample gives n bytes, other ones for each seed.
func sample(n, seed int) []byte {
	b := make([]byte, n)
	x := uint32(seed)*2654435761 + 1
	for i := range b {
		x = x*1664525 + 1013904223
		b[i] = byte(x >> 24)
	}
	return b
}

// someSums are sums that bytes may have had; for 32 bits each number is the sum of some.
func someSums() []uint32 {
	return []uint32{0, 1, 7, 15, 16, 255, 256, 0xedb88320, 0x80000000, 0xcbf43926, math.MaxUint32 - 1, math.MaxUint32}
}

// P2.1: sums that are known, the chapter's example among them.
func TestSumKnown(t *testing.T) {
	for _, c := range []struct {
		text string
		want uint32
	}{
		{"", 0},
		{"123456789", 0xcbf43926},
		{"a", 0xe8b7be43},
		{"abc", 0x352441c2},
		{"\x00", 0xd202ef8d},
		{"\xff", 0xff000000},
		{"\x00\x00\x00\x00", 0x2144df1c},
		{"\xff\xff\xff\xff", 0xffffffff},
	} {
		if got := Sum([]byte(c.text)); got != c.want {
			t.Errorf("%q: %08x, not %08x", c.text, got, c.want)
		}
	}
	if Sum() != 0 || Sum(nil) != 0 || Sum(nil, []byte{}, nil) != 0 {
		t.Error("the sum of nothing")
	}
}

// P2.1: Sum of each byte, and of texts of many lengths, against the definition and the library.
func TestSum(t *testing.T) {
	for x := range 256 {
		b := []byte{byte(x)}
		if got, want := Sum(b), ^plain(math.MaxUint32, b); got != want {
			t.Errorf("the byte %d: %08x, not %08x", x, got, want)
		}
	}
	for n := range 600 {
		b := sample(n, n)
		if got, want := Sum(b), ^plain(math.MaxUint32, b); got != want || got != crc32.ChecksumIEEE(b) {
			t.Errorf("%d bytes: %08x, not %08x", n, got, want)
		}
	}
}

// P2.1: the parts count in their order, as if they were one.
func TestSumParts(t *testing.T) {
	b := sample(40, 3)
	want := crc32.ChecksumIEEE(b)
	for i := range b {
		for j := i; j < len(b); j++ {
			if got := Sum(b[:i], b[i:j], nil, b[j:]); got != want {
				t.Errorf("cut at %d and %d: %08x, not %08x", i, j, got, want)
			}
		}
	}
	if Sum([]byte("ab"), []byte("c")) == Sum([]byte("c"), []byte("ab")) {
		t.Error("the order of the parts plays no part")
	}
}

// P2.1: On goes on with the sum of what stands ahead.
func TestOn(t *testing.T) {
	b := sample(300, 5)
	want := crc32.ChecksumIEEE(b)
	for i := range b {
		if got := On(Sum(b[:i]), b[i:i+(len(b)-i)/2], b[i+(len(b)-i)/2:]); got != want {
			t.Errorf("cut at %d: %08x, not %08x", i, got, want)
		}
	}
}

// P2.1: On, for any sum.
func TestOnAnySum(t *testing.T) {
	for _, sum := range someSums() {
		if On(sum) != sum || On(sum, nil, []byte{}) != sum {
			t.Errorf("%08x and nothing: %08x", sum, On(sum))
		}
		for n := range 70 {
			b := sample(n, n+9)
			got, want := On(sum, b), ^plain(^sum, b)
			if got != want || got != crc32.Update(sum, crc32.IEEETable, b) {
				t.Errorf("%08x and %d bytes: %08x, not %08x", sum, n, got, want)
			}
			if got := On(On(sum, b[:n/3]), b[n/3:]); got != want {
				t.Errorf("%08x and %d bytes, in two: %08x, not %08x", sum, n, got, want)
			}
		}
	}
}

// P2.2: the parts aren't changed, their spare room neither.
func TestArgumentsStay(t *testing.T) {
	whole := sample(50, 1)
	kept := bytes.Clone(whole)
	parts := [][]byte{whole[:10], whole[10:30], nil, whole[30:31]}
	Sum(parts...)
	On(5, parts...)
	if !bytes.Equal(whole, kept) {
		t.Error("a part was changed")
	}
	if len(parts) != 4 || len(parts[0]) != 10 || len(parts[1]) != 20 || parts[2] != nil || len(parts[3]) != 1 {
		t.Error("the list of the parts was changed")
	}
}

// wild calls everything with parts of all kinds, and gives all that was answered.
func wild() []uint32 {
	var all []uint32
	for _, sum := range someSums() {
		for _, n := range []int{0, 1, 2, 255, 256, 4096, 70000} {
			b := sample(n, 2)
			all = append(all, Sum(b), Sum(b, nil, b), Sum(nil), On(sum), On(sum, nil), On(sum, b), On(sum, nil, b, b))
		}
	}
	return all
}

// P1, P2: no call panics, whatever it is given, and two runs of the same calls give the same answers.
func TestWild(t *testing.T) {
	one, two := wild(), wild()
	for i := range one {
		if one[i] != two[i] {
			t.Fatalf("the answer %d: %08x, and %08x", i, one[i], two[i])
		}
	}
}
