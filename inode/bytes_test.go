package inode_test

import (
	"bytes"
	"fmt"
	"math/rand"
	"slices"
	"strings"
	"testing"

	"keelson/api"
	"keelson/inode"
	"keelson/node"
)

// P18.1: the chapter's example.
func TestExample(t *testing.T) {
	b, e := inode.Write(dir(entry("a", 3)))
	if !bytes.Equal(b, []byte{2, 1, 3, 1, 97}) || e != api.OK {
		t.Errorf("%v, %v", b, e)
	}
	if inode.Chunks(129) != 2 {
		t.Error(inode.Chunks(129))
	}
}

// P18.1: Write gives an inode's bytes, and Read gives it back.
func TestWriteAndRead(t *testing.T) {
	for _, n := range rights() {
		b, e := inode.Write(n)
		if e != api.OK || !bytes.Equal(b, plainBytes(n)) {
			t.Errorf("Write of %v: %v, %v", n, b, e)
		}
		if back, e := inode.Read(b); e != api.OK || !same(back, n) {
			t.Errorf("Read of %v: %v, %v", b, back, e)
		}
	}
	for size, want := range map[int][]byte{0: {1, 0, 0}, 1: {1, 1, 0}, 255: {1, 255, 0}, 256: {1, 0, 1}, 768: {1, 0, 3}} {
		if b, e := inode.Write(file(size)); !bytes.Equal(b, want) || e != api.OK {
			t.Errorf("a file of %d: %v, %v", size, b, e)
		}
	}
	if b, e := inode.Write(dir()); !bytes.Equal(b, []byte{2, 0}) || e != api.OK {
		t.Errorf("an empty directory: %v, %v", b, e)
	}
}

// P18.1: what isn't right isn't written.
func TestWriteRefuses(t *testing.T) {
	for _, n := range wrongs() {
		if b, e := inode.Write(n); e != api.ErrArg || len(b) != 0 {
			t.Errorf("%v: %v, %v", n, b, e)
		}
	}
}

// P18.1: the longest directory has 114 bytes, so that each inode is a node's body.
func TestLongest(t *testing.T) {
	b, e := inode.Write(longest())
	if len(b) != 114 || e != api.OK {
		t.Errorf("%d bytes, %v", len(b), e)
	}
	if back, e := inode.Read(b); !same(back, longest()) || e != api.OK {
		t.Errorf("%v, %v", back, e)
	}
	if _, e := node.Write(api.Node{Key: 8, Body: b}); e != api.OK {
		t.Error(e)
	}
}

// holdsRead tells unless bytes are what Write gives of what Read gives of them, or are ErrForm; whether they are.
func holdsRead(t *testing.T, b []byte) bool {
	t.Helper()
	n, e := inode.Read(b)
	if e != api.OK {
		if e != api.ErrForm || !zero(n) {
			t.Fatalf("%v: %v, %v", b, n, e)
		}
		return false
	}
	if again, e := inode.Write(n); e != api.OK || !bytes.Equal(again, b) || !plainRight(n) || !bytes.Equal(plainBytes(n), b) {
		t.Fatalf("%v: %v, %v", b, n, again)
	}
	return true
}

// P18.1: Read of all bytes of which there are few: just the files, and the directories without entries.
func TestReadFew(t *testing.T) {
	t.Parallel()
	found := 0
	holds := func(b ...byte) {
		if holdsRead(t, b) {
			found++
		}
	}
	holds()
	for a := range 256 {
		holds(byte(a))
		for b := range 256 {
			holds(byte(a), byte(b))
			for c := range 256 {
				if a <= 3 || a == 255 {
					holds(byte(a), byte(b), byte(c))
				}
			}
		}
	}
	if found != 769+1 {
		t.Errorf("%d were read", found)
	}
}

// P18.1: Read of an inode's bytes of which some are cut off, or with more behind them.
func TestReadLength(t *testing.T) {
	for _, n := range rights() {
		b := plainBytes(n)
		for size := range b {
			if holdsRead(t, b[:size]) {
				t.Errorf("%d bytes of %v are read", size, b)
			}
		}
		for _, more := range []string{"\x00", "\x01", "\x01\x01a", "\x01\x01\xff", strings.Repeat("x", 300), strings.Repeat("\x00", 70000)} {
			if holdsRead(t, append(bytes.Clone(b), more...)) {
				t.Errorf("%v is read with more behind", b)
			}
		}
	}
}

// P18.1: Read of an inode's bytes of which one is any other one.
func TestReadChanged(t *testing.T) {
	t.Parallel()
	fine := 0
	for i, n := range rights() {
		if n.Kind == api.File && i%50 != 0 || n.Kind == api.Dir && i%3 != 0 {
			continue
		}
		b := plainBytes(n)
		for place := range b {
			was := b[place]
			for x := range 256 {
				b[place] = byte(x)
				if holdsRead(t, b) {
					fine++
				}
			}
			b[place] = was
		}
	}
	if fine == 0 {
		t.Error("none was read")
	}
}

// P18.1: Read of directories that aren't right, as Write would give them if they were.
func TestReadRefuses(t *testing.T) {
	for _, n := range wrongs() {
		if n.Kind != api.Dir || n.Size != 0 || len(n.Entries) > 255 || slices.ContainsFunc(n.Entries, func(e api.Entry) bool { return e.Inode < 0 || e.Inode > 255 || len(e.Name) > 255 }) {
			continue
		}
		if b := plainBytes(n); holdsRead(t, b) {
			t.Errorf("%v is read", b)
		}
	}
	for _, b := range [][]byte{{1, 1, 3}, {1, 0, 4}, {1, 255, 255}, {0, 0}, {0, 0, 0}, {3, 0}, {3, 0, 0}, {2, 1}, {2, 255}, {2, 1, 3}, {2, 1, 3, 0}, {2, 1, 3, 255}, {2, 2, 3, 1, 97}, {2, 0, 3, 1, 97}, {2, 1, 3, 2, 97}, {2, 1, 0, 1, 97}, {2, 1, 25, 1, 97}, {2, 1, 3, 1, 47}, {2, 1, 3, 1, 0}, {2, 1, 3, 1, 46}} {
		if holdsRead(t, b) {
			t.Errorf("%v is read", b)
		}
	}
}

// P18.1: Read of any bytes.
func TestReadAny(t *testing.T) {
	r := rand.New(rand.NewSource(4))
	for range 50000 {
		b := make([]byte, r.Intn(130))
		for i := range b {
			b[i] = byte(r.Intn(1 << (1 + r.Intn(8))))
		}
		holdsRead(t, b)
	}
	for _, size := range []int{256, 65536, 1 << 24} {
		for _, first := range []byte{1, 2} {
			b := make([]byte, size)
			b[0] = first
			holdsRead(t, b)
		}
	}
}

// P18.4: the bytes that Write gives, and the inode that Read gives, are new memory.
func TestBytesOwnMemory(t *testing.T) {
	for _, n := range []api.Inode{full(), dir(), file(258)} {
		one, _ := inode.Write(n)
		two, _ := inode.Write(n)
		whole := append(bytes.Clone(two), "spare room"...)
		kept := bytes.Clone(whole)
		a, _ := inode.Read(whole[:len(two)])
		b, _ := inode.Read(whole[:len(two)])
		one = one[:cap(one)]
		for i := range one {
			one[i] = 0xa5
		}
		a.Entries = a.Entries[:cap(a.Entries)]
		for i := range a.Entries {
			a.Entries[i] = entry("gone", -7)
		}
		if !bytes.Equal(whole, kept) || !bytes.Equal(two, plainBytes(n)) || !same(b, n) {
			t.Errorf("%v: answers share memory", n)
		}
		for i := range whole {
			whole[i] = 0xa5
		}
		if !same(b, n) {
			t.Errorf("what was handed in is kept: %v", b)
		}
	}
}

// wild calls everything with arguments of all kinds, and gives all that was answered.
func wild() []string {
	var all []string
	note := func(a ...any) { all = append(all, fmt.Sprint(a...)) }
	r := rand.New(rand.NewSource(5))
	number := func() int { return append(odd, 1, 2, 24)[r.Intn(len(odd)+3)] }
	text := func() string { return append(wrongNames, "a", "b", "c")[r.Intn(len(wrongNames)+3)] }
	for range 2000 {
		n := api.Inode{Kind: 1 + r.Intn(2), Size: number()}
		if r.Intn(4) == 0 {
			n.Kind = number()
		}
		for range r.Intn(12) {
			n.Entries = append(n.Entries, entry(text(), number()))
		}
		b, e := inode.Write(n)
		back, f := inode.Read([]byte(text() + text() + text()))
		with, g := inode.With(n, entry(text(), number()), entry(text(), number()))
		i, ok := inode.Find(n, text())
		note(inode.Check(n), b, e, back, f, with, g, i, ok, inode.Without(n, text(), text()), inode.Key(number(), number()), inode.Chunks(number()))
	}
	many := make([]api.Entry, 1<<20)
	n, e := inode.With(dir(), many...)
	b, f := inode.Write(dir(many...))
	note(n, e, b, f, inode.Check(dir(many...)), len(inode.Without(dir(many...), "", "a").Entries), len(inode.Without(full(), make([]string, 1<<20)...).Entries))
	return all
}

// P1, P2: no call panics, whatever it is given, and two runs of the same calls give the same answers.
func TestWild(t *testing.T) {
	if !slices.Equal(wild(), wild()) {
		t.Error("two runs give different answers")
	}
}
