package file_test

import (
	"bytes"
	"fmt"
	"math/rand"
	"slices"
	"testing"

	"keelson/api"
	"keelson/cache"
	"keelson/file"
)

// P20.4: Truncate from all sizes to all sizes, and to those that none is.
func TestTruncate(t *testing.T) {
	t.Parallel()
	for _, size := range sizes {
		s := newShelf(9)
		s.file(2, text(size))
		for _, next := range slices.Concat(sizes, odd, []int{size - 1, size + 1}) {
			x := over(t, s)
			e := x.truncates(2, next)
			if (e == api.ErrArg) != (next < 0) || (e == api.ErrBig) != (next > 768) {
				t.Errorf("Truncate to %d of %d: %v", next, size, e)
			}
			x.gets(2)
			x.reads(2, 0, 768)
			x.truncates(2, 768)
			x.reads(2, 0, 768)
		}
	}
}

// P20.4: what was cut away doesn't come back when a file grows again, by a Truncate or by a Write.
func TestGrowsAgain(t *testing.T) {
	for _, size := range sizes {
		for _, next := range []int{0, 1, 100, 128, 130, 256, 300} {
			s := newShelf(9)
			s.file(2, text(size))
			x := over(t, s)
			x.truncates(2, next)
			x.writes(2, 600, []byte("x"))
			x.reads(2, 0, 768)
			x.truncates(2, next)
			x.truncates(2, 700)
			x.reads(2, 0, 768)
		}
	}
}

// P20.1, P20.4: which broken chunks a Truncate needs: the one that is cut, or grows.
func TestTruncateBroken(t *testing.T) {
	for _, size := range []int{1, 10, 127, 128, 129, 256, 300, 768} {
		for k := 1; k <= (size+127)/128; k++ {
			for _, breakIt := range breaks {
				for _, next := range sizes {
					s := newShelf(9)
					s.file(2, text(size))
					breakIt(s, 16+k)
					over(t, s).truncates(2, next)
				}
			}
		}
	}
	for i, c := range []struct {
		size, broken, next int
		want               api.Errno
	}{
		{300, 1, 0, api.OK}, {300, 1, 1, api.ErrDead}, {300, 1, 127, api.ErrDead}, {300, 1, 128, api.OK}, {300, 1, 129, api.OK}, {300, 2, 128, api.OK}, {300, 2, 129, api.ErrDead}, {300, 2, 256, api.OK}, {300, 2, 299, api.OK},
		{300, 3, 256, api.OK}, {300, 3, 257, api.ErrDead}, {300, 3, 300, api.OK}, {300, 3, 301, api.ErrDead}, {300, 3, 384, api.ErrDead}, {300, 3, 768, api.ErrDead}, {300, 1, 768, api.OK}, {256, 2, 257, api.OK}, {256, 2, 768, api.OK},
	} {
		s := newShelf(9)
		s.file(2, text(c.size))
		s.faults[16+c.broken] = api.ErrDead
		if e := over(t, s).truncates(2, c.next); e != c.want {
			t.Errorf("%d: %v, not %v", i, e, c.want)
		}
	}
}

// P20.3, P20.4: chunks of a key that no file had as its own are written over.
func TestStrayChunks(t *testing.T) {
	for _, size := range []int{0, 5, 128, 200} {
		for k := 1; k <= 6; k++ {
			s := newShelf(9)
			s.file(2, text(size))
			s.nodes[16+k] = bytes.Repeat([]byte{0xee}, 128)
			if (size+127)/128 >= k {
				continue
			}
			x := over(t, s)
			x.truncates(2, 768)
			x.reads(2, 0, 768)
			x = over(t, s)
			x.writes(2, 767, []byte{1})
			x.reads(2, 0, 768)
			x = over(t, s)
			x.removes(2)
			if b, e := x.c.Get(16 + k); len(b) != 128 || e != api.OK {
				t.Errorf("%v, %v", b, e)
			}
		}
	}
}

// P20.4: Remove of files of all sizes, of directories, and of numbers that none is; other inodes stay.
func TestRemove(t *testing.T) {
	for _, size := range sizes {
		s := newShelf(0)
		s.file(1, text(768))
		s.file(2, text(size))
		s.file(3, text(768))
		x := over(t, s)
		wants(t, "Remove", x.removes(2), api.OK)
		wants(t, "Get", x.gets(2), api.ErrNone)
		wants(t, "Remove again", x.removes(2), api.ErrNone)
		if l := x.c.Changes(); len(l) != 1+(size+127)/128 {
			t.Errorf("%d: %v", size, l)
		}
	}
	s := newShelf(0)
	s.dir(2)
	s.file(3, text(768))
	s.nodes[17] = []byte("stray")
	x := over(t, s)
	wants(t, "Remove of a directory", x.removes(2), api.OK)
	for _, number := range odd {
		wants(t, "Remove of none", x.removes(number), api.ErrNone)
	}
}

// P20.4: Remove needs no chunk.
func TestRemoveBroken(t *testing.T) {
	for k := 1; k <= 3; k++ {
		for _, breakIt := range breaks {
			s := newShelf(0)
			s.file(2, text(300))
			breakIt(s, 16+k)
			wants(t, "Remove", over(t, s).removes(2), api.OK)
		}
	}
}

// P20.3, P20.4: there may be as many nodes as the source's Limit; what needs no more of them is made in any case.
func TestLimit(t *testing.T) {
	for _, size := range []int{0, 1, 128, 129, 500} {
		for _, next := range sizes {
			for limit := range 9 {
				s := newShelf(limit)
				s.dir(1)
				s.file(2, text(size))
				x := over(t, s)
				e := x.truncates(2, next)
				if n := 2 + (next+127)/128; (e == api.ErrNoSpace) != (n > limit && n > 2+(size+127)/128) {
					t.Errorf("Truncate to %d of %d, Limit %d: %v", next, size, limit, e)
				}
				if next == 0 {
					continue
				}
				x = over(t, s)
				x.writes(2, next-1, []byte("x"))
				x = over(t, s)
				x.writes(2, 0, make([]byte, next))
			}
		}
	}
}

// P20.3: a Write within a file changes no other node, so that it is kept by few acts.
func TestFewChanges(t *testing.T) {
	s := newShelf(9)
	s.file(2, text(500))
	for i, c := range []struct{ off, n, changes int }{{0, 1, 1}, {0, 128, 1}, {127, 2, 2}, {0, 500, 4}, {499, 1, 1}, {499, 2, 2}, {512, 1, 3}, {0, 0, 0}} {
		x := over(t, s)
		x.writes(2, c.off, make([]byte, c.n))
		if l := x.c.Changes(); len(l) != c.changes {
			t.Errorf("%d: %v", i, l)
		}
	}
}

// P20.5: what is handed in stays as it is, its spare room too, and isn't kept.
func TestHandedIn(t *testing.T) {
	s := newShelf(9)
	s.file(2, nil)
	x := over(t, s)
	data := bytes.Repeat([]byte{7}, 400)
	wants(t, "Write", x.writes(2, 10, data[:300]), api.OK)
	if !bytes.Equal(data, bytes.Repeat([]byte{7}, 400)) {
		t.Error("the data were changed")
	}
	clear(data)
	x.holds()
	x.reads(2, 0, 768)
}

// P20.5: answers are new memory, their spare room too.
func TestAnswers(t *testing.T) {
	s := newShelf(9)
	s.file(2, text(300))
	s.dir(3)
	x := over(t, s)
	for range 2 {
		for _, n := range []int{0, 1, 128, 300, 768} {
			b, _ := file.Read(x.c, 2, 0, n)
			other, _ := file.Read(x.c, 2, 0, n)
			other = other[:cap(other)]
			was := bytes.Clone(other)
			b = b[:cap(b)]
			for i := range b {
				b[i] ^= 0xff
			}
			if !bytes.Equal(other, was) {
				t.Error("two answers share memory")
			}
			x.reads(2, 0, 768)
			x.holds()
		}
		n, _ := file.Get(x.c, 3)
		n.Entries = n.Entries[:cap(n.Entries)]
		for i := range n.Entries {
			n.Entries[i] = api.Entry{Name: "y", Inode: 9}
		}
		x.gets(3)
		wants(t, "Write", x.writes(2, 0, []byte("abc")), api.OK)
	}
	if !bytes.Equal(s.nodes[17], text(300)[:128]) || string(s.nodes[24]) != "\x02\x01\x07\x01x" {
		t.Error("the source was changed")
	}
}

// P20.1 to P20.5: random scripts over a few files, against the chapter's words.
func TestScripts(t *testing.T) {
	t.Parallel()
	for seed := range int64(150) {
		r := rand.New(rand.NewSource(seed))
		s := newShelf(8 + r.Intn(14))
		for number := 1; number <= 4; number++ {
			s.file(number, some(r, r.Intn(sizes[r.Intn(len(sizes))]+1)))
		}
		s.dir(5)
		if seed%2 == 1 {
			for range 1 + r.Intn(3) {
				breaks[r.Intn(len(breaks))](s, 8*(1+r.Intn(4))+1+r.Intn(3))
			}
		}
		x := over(t, s)
		for range 120 {
			step(x, r)
			if t.Failed() {
				t.Fatalf("seed %d", seed)
			}
		}
	}
}

// step does one thing of a random script.
func step(x *pair, r *rand.Rand) {
	x.t.Helper()
	number, off, n := 1+r.Intn(4), r.Intn(768), r.Intn(200)
	switch r.Intn(30) {
	case 0:
		number = 5
	case 1:
		number = odd[r.Intn(len(odd))]
	case 2:
		off = odd[r.Intn(len(odd))]
	case 3:
		n = r.Intn(800)
	case 4, 5, 6, 7:
		off = sizes[r.Intn(len(sizes))]
	case 8, 9, 10:
		n = sizes[r.Intn(len(sizes))]
	case 11, 12, 13, 14:
		f, _ := x.p.get(number)
		off = f.Size - r.Intn(min(f.Size, 3)+1)
	}
	switch r.Intn(20) {
	case 0:
		x.removes(number)
		if r.Intn(3) > 0 {
			body := []byte{1, 0, 0}
			x.answers("Put", x.c.Put(api.Change{Key: 8, Body: body}), x.put(8, body))
		}
	case 1, 2, 3, 4:
		x.truncates(number, off)
	case 5, 6, 7, 8, 9:
		x.reads(number, off, n)
	case 10:
		x.gets(number)
	default:
		x.writes(number, off, some(r, n))
	}
}

// put lets a node have a body, if there is room; the error.
func (x *pair) put(key int, body []byte) api.Errno {
	if _, ok := x.p.nodes[key]; !ok && len(x.p.nodes) >= x.p.limit {
		return api.ErrNoSpace
	}
	x.p.set(key, body)
	return api.OK
}

// run gives all that a random script answers.
func run(seed int64) []string {
	r := rand.New(rand.NewSource(seed))
	s := newShelf(r.Intn(30))
	for range 60 {
		s.nodes[r.Intn(64)] = [][]byte{some(r, r.Intn(6)), {1, byte(r.Intn(256)), byte(r.Intn(4))}, {2, 0}, text(128)}[r.Intn(4)]
	}
	for range r.Intn(6) {
		s.faults[r.Intn(64)] = api.Errno(r.Intn(80))
	}
	c := cache.New(s)
	var all []string
	note := func(a ...any) { all = append(all, fmt.Sprint(a...)) }
	for range 200 {
		number, off, n := r.Intn(9), r.Intn(800)-10, r.Intn(800)-10
		if r.Intn(5) == 0 {
			number, off, n = odd[r.Intn(len(odd))], odd[r.Intn(len(odd))], odd[r.Intn(len(odd))]
		}
		switch r.Intn(5) {
		case 0:
			note(file.Get(c, number))
		case 1:
			note(file.Read(c, number, off, n))
		case 2:
			note(file.Write(c, number, off, some(r, min(max(n, 0), 1<<16))))
		case 3:
			note(file.Truncate(c, number, n))
		case 4:
			note(file.Remove(c, number))
		}
	}
	note(c.Changes(), c.Live())
	return all
}

// P1, P2: whatever is handed in, no call panics, and two runs of the same calls give the same answers.
func TestWild(t *testing.T) {
	t.Parallel()
	for seed := range int64(300) {
		if !slices.Equal(run(seed), run(seed)) {
			t.Errorf("seed %d: two runs differ", seed)
		}
	}
	s := newShelf(9)
	s.file(2, nil)
	for _, off := range odd {
		over(t, s).writes(2, off, make([]byte, 1<<24))
	}
}
