package file_test

import (
	"bytes"
	"fmt"
	"slices"
	"testing"

	"keelson/api"
	"keelson/cache"
	"keelson/file"
)

// sizes are sizes of files at the edges of chunks.
var sizes = []int{0, 1, 2, 10, 127, 128, 129, 200, 255, 256, 257, 383, 384, 385, 500, 512, 513, 640, 641, 700, 767, 768}

// P20.3: the chapter's example.
func TestExample(t *testing.T) {
	s := newShelf(9)
	s.file(2, nil)
	c := cache.New(s)
	wants(t, "Write", file.Write(c, 2, 130, []byte("ab")), api.OK)
	n, e := file.Get(c, 2)
	if n.Kind != api.File || n.Size != 132 || e != api.OK {
		t.Errorf("%v, %v", n, e)
	}
	one, _ := c.Get(17)
	two, _ := c.Get(18)
	if !bytes.Equal(one, make([]byte, 128)) || string(two) != "\x00\x00ab" || c.Live() != lives(16, 17, 18) {
		t.Errorf("%q, %q, %v", one, two, c.Live())
	}
}

// P20.1: Get of each number, of files, of directories, and of none.
func TestGet(t *testing.T) {
	s := newShelf(99)
	for number := range 32 {
		switch number % 4 {
		case 0:
			s.dir(number)
		case 1:
			s.file(number, text(number*20))
		case 2:
			s.nodes[8*number] = []byte{2, 0}
		}
	}
	x := over(t, s)
	for _, number := range slices.Concat(odd, []int{-2, 2, 3, 4, 5, 6, 7, 8, 20, 21, 22, 23, 24, 27, 28, 29, 30, 31, 32}) {
		e := x.gets(number)
		if there := number >= 1 && number <= 24 && number%4 != 3; there != (e == api.OK) || !there && e != api.ErrNone {
			t.Errorf("%d: %v", number, e)
		}
	}
}

// P20.1: an inode's node that layer 18 can't read is corrupt, and the cache's errors are handed on, by all calls.
func TestBrokenInode(t *testing.T) {
	for _, body := range []string{"", "?", "\x00", "\x01", "\x01\x00", "\x01\x00\x00\x00", "\x01\x01\x03", "\x01\xff\xff", "\x02", "\x02\x01", "\x02\x00\x00", "\x03\x00\x00", "\x02\x01\x07\x00", "\x02\x01\x00\x01a", "\x02\x01\x19\x01a", "\x02\x02\x02\x01b\x03\x01a"} {
		s := newShelf(9)
		s.nodes[16] = []byte(body)
		answerAll(t, fmt.Sprintf("%q", body), s, api.ErrCorrupt)
	}
	for _, e := range []api.Errno{api.ErrNone, api.ErrCorrupt, api.ErrDown, api.ErrDead, 77} {
		s := newShelf(9)
		s.file(2, text(300))
		s.faults[16] = e
		answerAll(t, fmt.Sprint(e), s, e)
	}
	answerAll(t, "no inode", newShelf(9), api.ErrNone)
}

// answerAll tells unless all calls of the inode 2, whatever else they are given, have one answer, and change nothing.
func answerAll(t *testing.T, what string, s *shelf, want api.Errno) {
	t.Helper()
	c := cache.New(s)
	n, e := file.Get(c, 2)
	if n.Kind != 0 || n.Size != 0 || len(n.Entries) != 0 || e != want {
		t.Errorf("%s: Get: %v, %v", what, n, e)
	}
	for _, off := range []int{-1, 0, 5, 900} {
		for _, size := range []int{-1, 0, 5, 900} {
			b, e := file.Read(c, 2, off, size)
			if len(b) != 0 || e != want {
				t.Errorf("%s: Read: %v, %v", what, b, e)
			}
			wants(t, what+": Truncate", file.Truncate(c, 2, size), want)
			wants(t, what+": Write", file.Write(c, 2, off, make([]byte, max(size, 0))), want)
		}
	}
	if want != api.ErrIsDir {
		wants(t, what+": Remove", file.Remove(c, 2), want)
	}
	if len(c.Changes()) != 0 {
		t.Errorf("%s: changes: %v", what, c.Changes())
	}
}

// P20.2 to P20.4: a directory isn't read, written or truncated, whatever else is handed in.
func TestDirectory(t *testing.T) {
	s := newShelf(0)
	s.dir(2)
	x := over(t, s)
	for _, off := range odd {
		for _, n := range odd {
			wants(t, "Read", x.reads(2, off, n), api.ErrIsDir)
		}
		wants(t, "Truncate", x.truncates(2, off), api.ErrIsDir)
		for _, data := range [][]byte{nil, {}, {1}, make([]byte, 900)} {
			wants(t, "Write", x.writes(2, off, data), api.ErrIsDir)
		}
	}
}

// P20.2: Read at all edges of files of all sizes.
func TestRead(t *testing.T) {
	for _, size := range sizes {
		s := newShelf(9)
		s.file(2, text(size))
		x := over(t, s)
		for _, off := range slices.Concat(sizes, odd, []int{size - 1, size, size + 1}) {
			for _, n := range slices.Concat(sizes, odd, []int{size - off, size - off + 1, size - off - 1}) {
				e := x.reads(2, off, n)
				if (e == api.ErrArg) != (off < 0 || n < 0) || e != api.ErrArg && e != api.OK {
					t.Errorf("Read(2, %d, %d) of %d: %v", off, n, size, e)
				}
			}
		}
	}
}

// P20.1, P20.2: a broken chunk is told if it is needed, else not.
func TestReadBroken(t *testing.T) {
	for _, size := range []int{1, 128, 300, 768} {
		for k := 1; k <= (size+127)/128; k++ {
			for _, breakIt := range breaks {
				s := newShelf(9)
				s.file(2, text(size))
				breakIt(s, 16+k)
				x := over(t, s)
				for _, off := range []int{0, 1, 127, 128, 129, 299, 300, 511, 512, 640, 767, 768, 900} {
					for _, n := range []int{0, 1, 2, 127, 128, 129, 300, 768, 1 << 60} {
						x.reads(2, off, n)
					}
				}
				wants(t, "ErrArg is first", x.reads(2, -1, 768), api.ErrArg)
				wants(t, "ErrArg is first", x.reads(2, 0, -1), api.ErrArg)
			}
		}
	}
}

// P20.1, P20.2: which errors of chunks there are, and of two broken chunks the first one's.
func TestReadFirstError(t *testing.T) {
	for i, c := range []struct {
		k, other int
		e        api.Errno // of k; the chunk other is missing
		want     api.Errno
	}{
		{1, 3, api.ErrDown, api.ErrDown}, {3, 1, api.ErrDown, api.ErrCorrupt}, {2, 3, api.ErrDead, api.ErrDead}, {3, 2, api.ErrDead, api.ErrCorrupt}, {3, 3, api.ErrDead, api.ErrDead}, {2, 2, api.ErrNone, api.ErrCorrupt},
	} {
		s := newShelf(9)
		s.file(2, text(300))
		delete(s.nodes, 16+c.other)
		s.faults[16+c.k] = c.e
		x := over(t, s)
		if e := x.reads(2, 0, 300); e != c.want {
			t.Errorf("%d: %v, not %v", i, e, c.want)
		}
	}
}

// P20.3: Write at all edges of files of all sizes.
func TestWrite(t *testing.T) {
	t.Parallel()
	for _, size := range sizes {
		s := newShelf(9)
		s.file(2, text(size))
		for _, off := range slices.Concat(sizes, []int{size + 1, -1, 769, 1 << 60, 1<<63 - 1}) {
			for _, n := range slices.Concat(sizes, []int{768 - off, size - off, 769}) {
				if n < 0 || n > 1000 {
					continue
				}
				x := over(t, s)
				data := bytes.Repeat([]byte{0xee}, n)
				e := x.writes(2, off, data)
				if e == api.OK && n > 0 {
					x.gets(2)
					x.reads(2, 0, 768)
				}
				if (e == api.ErrBig) != (off >= 0 && n > 0 && off > 768-n) || (e == api.ErrArg) != (off < 0) {
					t.Errorf("Write of %d at %d of %d: %v", n, off, size, e)
				}
			}
		}
	}
}

// P20.3: the order of Write's errors, and of Truncate's.
func TestOrder(t *testing.T) {
	s := newShelf(0)
	s.file(2, text(300))
	for k := 1; k <= 3; k++ {
		s.faults[16+k] = api.ErrDown
	}
	x := over(t, s)
	wants(t, "Write: off", x.writes(2, -1, nil), api.ErrArg)
	wants(t, "Write: off", x.writes(2, -1, make([]byte, 900)), api.ErrArg)
	wants(t, "Write: nothing", x.writes(2, 900, nil), api.OK)
	wants(t, "Write: nothing", x.writes(2, 1<<63-1, []byte{}), api.OK)
	wants(t, "Write: too big", x.writes(2, 768, []byte{1}), api.ErrBig)
	wants(t, "Write: too big", x.writes(2, 1, make([]byte, 768)), api.ErrBig)
	wants(t, "Write: too big", x.writes(2, 1<<63-1, []byte{1}), api.ErrBig)
	wants(t, "Write: a chunk", x.writes(2, 767, []byte{1}), api.ErrDown)
	wants(t, "Truncate: size", x.truncates(2, -1), api.ErrArg)
	wants(t, "Truncate: too big", x.truncates(2, 769), api.ErrBig)
	wants(t, "Truncate: a chunk", x.truncates(2, 768), api.ErrDown)
	for k := 1; k <= 3; k++ {
		delete(s.faults, 16+k)
	}
	x = over(t, s)
	wants(t, "Write: no space", x.writes(2, 767, []byte{1}), api.ErrNoSpace)
	wants(t, "Truncate: no space", x.truncates(2, 768), api.ErrNoSpace)
}

// P20.1, P20.3: which broken chunks a Write needs: those that are written in part, and the last one, if the file grows beyond it.
func TestWriteBroken(t *testing.T) {
	t.Parallel()
	for _, size := range []int{1, 10, 128, 129, 256, 300, 700, 768} {
		for k := 1; k <= (size+127)/128; k++ {
			for i, breakIt := range breaks {
				s := newShelf(9)
				s.file(2, text(size))
				breakIt(s, 16+k)
				for _, off := range []int{0, 1, 9, 10, 127, 128, 129, 255, 256, 299, 300, 384, 640, 700, 767} {
					for _, n := range []int{1, 9, 10, 20, 118, 127, 128, 129, 256, 300, 768 - off} {
						if off+n > 768 || i > 1 && i != 5 && n%2 == 1 {
							continue
						}
						over(t, s).writes(2, off, bytes.Repeat([]byte{0xee}, n))
					}
				}
			}
		}
	}
}

// P20.3: the chunks that are needed, word by word.
func TestWriteNeeds(t *testing.T) {
	for i, c := range []struct {
		size, broken, off, n int
		want                 api.Errno
	}{
		{300, 1, 0, 128, api.OK}, {300, 1, 0, 127, api.ErrDead}, {300, 1, 1, 127, api.ErrDead}, {300, 1, 0, 300, api.OK}, {300, 1, 127, 1, api.ErrDead}, {300, 1, 128, 1, api.OK}, {300, 1, 128, 500, api.OK},
		{300, 2, 0, 128, api.OK}, {300, 2, 0, 129, api.ErrDead}, {300, 2, 0, 256, api.OK}, {300, 2, 0, 255, api.ErrDead}, {300, 2, 129, 400, api.ErrDead}, {300, 2, 256, 1, api.OK},
		{300, 3, 0, 256, api.OK}, {300, 3, 256, 44, api.OK}, {300, 3, 0, 300, api.OK}, {300, 3, 256, 43, api.ErrDead}, {300, 3, 257, 43, api.ErrDead},
		{300, 3, 256, 45, api.ErrDead}, {300, 3, 256, 128, api.ErrDead}, {300, 3, 256, 129, api.ErrDead}, {300, 3, 300, 1, api.ErrDead}, {300, 3, 384, 1, api.ErrDead}, {300, 3, 700, 1, api.ErrDead}, {300, 3, 0, 301, api.ErrDead},
		{256, 1, 256, 1, api.OK}, {256, 1, 100, 200, api.ErrDead}, {256, 2, 256, 1, api.ErrDead}, {256, 2, 700, 1, api.ErrDead}, {256, 2, 128, 129, api.ErrDead}, {256, 2, 128, 128, api.OK}, {256, 2, 0, 128, api.OK},
		{768, 6, 640, 128, api.OK}, {768, 6, 0, 768, api.OK}, {768, 6, 767, 1, api.ErrDead}, {768, 5, 640, 128, api.OK},
	} {
		s := newShelf(9)
		s.file(2, text(c.size))
		s.faults[16+c.broken] = api.ErrDead
		if e := over(t, s).writes(2, c.off, bytes.Repeat([]byte{0xee}, c.n)); e != c.want {
			t.Errorf("%d: %v, not %v", i, e, c.want)
		}
	}
}

// P20.3, P20.4: of two broken chunks that are needed the first one's error.
func TestChangeFirstError(t *testing.T) {
	s := newShelf(9)
	s.file(2, text(300))
	s.faults[17], s.faults[18], s.faults[19] = api.ErrDown, api.ErrDead, 77
	x := over(t, s)
	wants(t, "in 1 and 2", x.writes(2, 100, make([]byte, 100)), api.ErrDown)
	wants(t, "in 2 and 3", x.writes(2, 200, make([]byte, 99)), api.ErrDead)
	wants(t, "in 2, and behind 3", x.writes(2, 200, make([]byte, 101)), api.ErrDead)
	wants(t, "1 and 2 as a whole, and behind 3", x.writes(2, 0, make([]byte, 301)), 77)
	wants(t, "far behind", x.writes(2, 400, make([]byte, 1)), 77)
	wants(t, "Truncate to 400", x.truncates(2, 400), 77)
	wants(t, "Truncate to 299", x.truncates(2, 299), 77)
	wants(t, "Truncate to 255", x.truncates(2, 255), api.ErrDead)
	wants(t, "Truncate to 1", x.truncates(2, 1), api.ErrDown)
	wants(t, "Truncate to 256", x.truncates(2, 256), api.OK)
	wants(t, "Truncate to 257", x.truncates(2, 257), api.OK)
}
