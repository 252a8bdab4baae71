package node_test

import (
	"bytes"
	"fmt"
	"math"
	"slices"
	"testing"

	"keelson/api"
	"keelson/frame"
	"keelson/node"
)

// odd are numbers that no key is.
var odd = []int{math.MinInt, math.MinInt64 + 255, math.MinInt32, -256, -255, -8, -1, 256, 257, 263, 511, 512, math.MaxInt32, math.MaxInt}

// someEpochs are epochs of which each byte is another one, and the edges.
func someEpochs() []uint64 {
	return []uint64{0, 1, 255, 256, 258, 0x0102030405060708, 0xf1f2f3f4f5f6f7f8, 1 << 63, math.MaxUint64 - 1, math.MaxUint64}
}

// sample gives n bytes, other ones for each seed.
func sample(n, seed int) []byte {
	b := make([]byte, n)
	x := uint32(seed)*2654435761 + 1
	for i := range b {
		x = x*1664525 + 1013904223
		b[i] = byte(x >> 24)
	}
	return b
}

// number gives a number's bytes, those of the least weight first.
func number(size int, n uint64) []byte {
	var b []byte
	for range size {
		b = append(b, byte(n&255))
		n >>= 8
	}
	return b
}

// plainNode is a node's record as the chapter tells it.
func plainNode(n api.Node) []byte {
	return slices.Concat([]byte{byte(n.Key)}, number(8, n.Epoch), n.Body)
}

// plainCommit is a commit's record as the chapter tells it.
func plainCommit(c api.Commit) []byte {
	return slices.Concat(number(8, c.Epoch), number(4, uint64(c.Sum)), c.Live[:])
}

// sameNode tells of a node that isn't the one wanted.
func sameNode(t *testing.T, got, want api.Node) {
	t.Helper()
	if got.Key != want.Key || got.Epoch != want.Epoch || !bytes.Equal(got.Body, want.Body) {
		t.Errorf("the node %v, not %v", got, want)
	}
}

// holds tells unless a node is written, and read back, as it should be.
func holds(t *testing.T, n api.Node) {
	t.Helper()
	b, e := node.Write(n)
	if e != api.OK || !bytes.Equal(b, plainNode(n)) {
		t.Fatalf("%v: %v, %v", n, b, e)
	}
	back, e := node.Read(b)
	if e != api.OK {
		t.Fatalf("%v: %v", n, e)
	}
	sameNode(t, back, n)
}

// P9.1: the chapter's example.
func TestExample(t *testing.T) {
	b, e := node.Write(api.Node{Key: 7, Epoch: 258, Body: []byte("x")})
	if e != api.OK || !bytes.Equal(b, []byte{7, 2, 1, 0, 0, 0, 0, 0, 0, 120}) {
		t.Errorf("%v, %v", b, e)
	}
}

// P9.1: Write and Read of all keys, lengths and many epochs.
func TestNode(t *testing.T) {
	for key := range 256 {
		for size := range 225 {
			holds(t, api.Node{Key: key, Epoch: uint64(key)<<56 + uint64(size), Body: sample(size, key)})
		}
	}
	for _, epoch := range someEpochs() {
		holds(t, api.Node{Key: 9, Epoch: epoch, Body: []byte("body")})
	}
}

// P9.1: the greatest node just fits into a record.
func TestGreatest(t *testing.T) {
	b, e := node.Write(api.Node{Key: 255, Epoch: math.MaxUint64, Body: sample(224, 1)})
	if e != api.OK {
		t.Fatal(e)
	}
	if _, e := frame.Write(api.KindNode, b); e != api.OK {
		t.Error(e)
	}
}

// P9.1: Write of what is no node.
func TestWriteRefuses(t *testing.T) {
	refused := func(key, size int) {
		if b, e := node.Write(api.Node{Key: key, Epoch: 3, Body: sample(size, 1)}); e != api.ErrArg || len(b) != 0 {
			t.Errorf("the key %d, %d bytes: %v, %v", key, size, b, e)
		}
	}
	for _, key := range odd {
		for _, size := range []int{0, 1, 224, 225} {
			refused(key, size)
		}
	}
	for _, size := range []int{225, 226, 240, 256, 480, 65536 + 5, 1 << 20} {
		for _, key := range []int{0, 7, 255} {
			refused(key, size)
		}
	}
}

// P9.1: Read of any bytes: they are what Write gives, or ErrForm.
func TestRead(t *testing.T) {
	for size := range 600 {
		b := sample(size, size+1)
		n, e := node.Read(b)
		if size < 9 || size > 233 {
			if e != api.ErrForm || n.Key != 0 || n.Epoch != 0 || len(n.Body) != 0 {
				t.Errorf("%d bytes: %v, %v", size, n, e)
			}
			continue
		}
		if e != api.OK {
			t.Errorf("%d bytes: %v", size, e)
		}
		if again, e := node.Write(n); e != api.OK || !bytes.Equal(again, b) {
			t.Errorf("%d bytes: %v, %v", size, n, e)
		}
	}
	if _, e := node.Read(sample(1<<20, 1)); e != api.ErrForm {
		t.Error(e)
	}
}

// P9.1: WriteCommit and ReadCommit, each of Live's bits among them.
func TestCommit(t *testing.T) {
	var list []api.Commit
	for key := range 256 {
		c := api.Commit{Epoch: uint64(key), Sum: 0x01020304 * uint32(key)}
		c.Live[key/8] = 1 << (key % 8)
		list = append(list, c)
	}
	for i, epoch := range someEpochs() {
		list = append(list, api.Commit{Epoch: epoch, Sum: math.MaxUint32 - uint32(i), Live: api.Live(sample(32, i))})
	}
	for _, sum := range []uint32{0, 1, 255, 256, 0x04030201, 1 << 31, math.MaxUint32} {
		list = append(list, api.Commit{Epoch: 1, Sum: sum})
	}
	for _, c := range list {
		b := node.WriteCommit(c)
		if !bytes.Equal(b, plainCommit(c)) {
			t.Errorf("%v: %v", c, b)
		}
		if back, e := node.ReadCommit(b); back != c || e != api.OK {
			t.Errorf("%v: %v, %v", c, back, e)
		}
	}
}

// P9.1: ReadCommit of any bytes: 44 of them are a commit, else it is ErrForm.
func TestReadCommit(t *testing.T) {
	for size := range 300 {
		b := sample(size, size+1)
		c, e := node.ReadCommit(b)
		switch {
		case size != 44 && (e != api.ErrForm || c != api.Commit{}):
			t.Errorf("%d bytes: %v, %v", size, c, e)
		case size == 44 && (e != api.OK || !bytes.Equal(node.WriteCommit(c), b)):
			t.Errorf("%d bytes: %v, %v", size, c, e)
		}
	}
}

// P9.3: what is handed in stays, its spare room too, and isn't kept; answers are new memory.
func TestOwnMemory(t *testing.T) {
	whole := sample(400, 1)
	kept := bytes.Clone(whole)
	n := api.Node{Key: 7, Epoch: 258, Body: whole[10:60]}
	one, _ := node.Write(n)
	two, _ := node.Write(n)
	fill(one[:cap(one)])
	if !bytes.Equal(whole, kept) || !bytes.Equal(two, plainNode(n)) {
		t.Error("what Write gave shares memory")
	}

	a, _ := node.Read(whole[:100])
	b, _ := node.Read(whole[:100])
	fill(a.Body[:cap(a.Body)])
	if !bytes.Equal(whole, kept) || !bytes.Equal(b.Body, kept[9:100]) {
		t.Error("what Read gave shares memory")
	}
	fill(whole)
	if !bytes.Equal(b.Body, kept[9:100]) || !bytes.Equal(two, plainNode(api.Node{Key: 7, Epoch: 258, Body: kept[10:60]})) {
		t.Error("what was handed in is kept")
	}
}

// P9.3: the same of commits.
func TestCommitsOwnMemory(t *testing.T) {
	whole := sample(100, 1)
	kept := bytes.Clone(whole)
	c, _ := node.ReadCommit(whole[:44])
	one, two := node.WriteCommit(c), node.WriteCommit(c)
	fill(one[:cap(one)])
	if !bytes.Equal(two, kept[:44]) || !bytes.Equal(whole, kept) {
		t.Error("what WriteCommit gave shares memory")
	}
	fill(whole)
	if !bytes.Equal(node.WriteCommit(c), kept[:44]) {
		t.Error("what was handed in is kept")
	}
}

// fill writes over bytes.
func fill(b []byte) {
	for i := range b {
		b[i] = 0xa5
	}
}

// wild calls everything with arguments of all kinds, and gives all that was answered.
func wild() []string {
	var all []string
	note := func(a ...any) { all = append(all, fmt.Sprint(a...)) }
	for _, size := range []int{0, 1, 8, 9, 43, 44, 45, 224, 225, 233, 234, 4096} {
		b := sample(size, 3)
		n, e := node.Read(b)
		c, f := node.ReadCommit(b)
		note(n, e, c, f, node.WriteCommit(c))
		for _, key := range append([]int{0, 7, 255}, odd...) {
			w, e := node.Write(api.Node{Key: key, Epoch: uint64(size), Body: b})
			note(w, e, node.Has(c.Live, key), node.With(c.Live, key, key), node.Without(c.Live, key, key))
		}
		note(node.Keys(c.Live), node.With(c.Live), node.Without(c.Live), node.With(c.Live, odd...), node.Without(c.Live, odd...))
	}
	n, e := node.Read(nil)
	c, f := node.ReadCommit(nil)
	note(n, e, c, f)
	return all
}

// P1, P2: no call panics, whatever it is given, and two runs of the same calls give the same answers.
func TestWild(t *testing.T) {
	if !slices.Equal(wild(), wild()) {
		t.Error("two runs give different answers")
	}
}
