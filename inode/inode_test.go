package inode_test

import (
	"fmt"
	"math"
	"math/big"
	"math/rand"
	"slices"
	"strings"
	"testing"

	"keelson/api"
	"keelson/inode"
)

// P18.1: Check of inodes that are right, and of those that aren't.
func TestCheck(t *testing.T) {
	for _, n := range rights() {
		if e := inode.Check(n); e != api.OK {
			t.Errorf("%v: %v", n, e)
		}
		n.Entries = append([]api.Entry{}, n.Entries...)
		if e := inode.Check(n); e != api.OK {
			t.Errorf("%v with a list: %v", n, e)
		}
	}
	for _, n := range wrongs() {
		if e := inode.Check(n); e != api.ErrArg {
			t.Errorf("%v: %v", n, e)
		}
	}
}

// P18.2: Find of each entry, and of names that there aren't.
func TestFind(t *testing.T) {
	for _, n := range rights() {
		for _, e := range n.Entries {
			if got, ok := inode.Find(n, e.Name); got != e.Inode || !ok {
				t.Errorf("%v: %q: %d, %v", n, e.Name, got, ok)
			}
		}
		for _, s := range append([]string{"x", "A", "a/", "aaaaaaaaaaaaa", "\xffx"}, wrongNames...) {
			if got, ok := inode.Find(n, s); got != 0 || ok {
				t.Errorf("%v: %q: %d, %v", n, s, got, ok)
			}
		}
	}
}

// P18.2: Find goes by the entries alone, whatever else is wrong with an inode, and tells the first one.
func TestFindFirst(t *testing.T) {
	entries := []api.Entry{entry("b", 3), entry("", -1), entry("a", 5), entry("b", 4), entry("a", 6), entry("/", math.MaxInt), entry("zero", 0), entry("zero", 2)}
	for _, n := range []api.Inode{{Kind: 1, Entries: entries}, {Kind: 2, Size: -1, Entries: entries}, {Entries: entries}} {
		for s, want := range map[string]int{"b": 3, "": -1, "a": 5, "/": math.MaxInt, "zero": 0} {
			if got, ok := inode.Find(n, s); got != want || !ok {
				t.Errorf("%q: %d, %v", s, got, ok)
			}
		}
		if got, ok := inode.Find(n, "c"); got != 0 || ok {
			t.Errorf("c: %d, %v", got, ok)
		}
	}
}

// plainWith is With by the chapter's words.
func plainWith(n api.Inode, more []api.Entry) (api.Inode, api.Errno) {
	if n.Kind != 2 || !plainRight(n) {
		return api.Inode{}, api.ErrNotDir
	}
	all := slices.Clone(n.Entries)
	for _, e := range more {
		switch {
		case !plainEntry(e):
			return api.Inode{}, api.ErrArg
		case slices.ContainsFunc(all, func(x api.Entry) bool { return x.Name == e.Name }):
			return api.Inode{}, api.ErrExists
		case len(all) >= 8:
			return api.Inode{}, api.ErrMany
		}
		all = append(all, e)
	}
	slices.SortFunc(all, func(a, b api.Entry) int { return strings.Compare(a.Name, b.Name) })
	return dir(all...), api.OK
}

// holdsWith tells unless With answers as it should.
func holdsWith(t *testing.T, n api.Inode, more ...api.Entry) api.Errno {
	t.Helper()
	got, e := inode.With(n, more...)
	is, f := plainWith(n, more)
	if e != f || !same(got, is) {
		t.Errorf("%v with %v: %v, %v, not %v, %v", n, more, got, e, is, f)
	}
	return e
}

// P18.2: With of what is no directory, or isn't right.
func TestWithNotDir(t *testing.T) {
	for _, n := range append(wrongs(), file(0), file(1), file(768)) {
		for _, more := range [][]api.Entry{nil, {entry("new", 1)}, {entry("", 0)}, {entry("a", 1), entry("a", 1)}} {
			if e := holdsWith(t, n, more...); e != api.ErrNotDir {
				t.Errorf("%v with %v: %v", n, more, e)
			}
		}
	}
}

// P18.2: With of entries of which each error is met first.
func TestWithErrors(t *testing.T) {
	seven := dir(full().Entries[:7]...)
	for i, c := range []struct {
		n    api.Inode
		more []api.Entry
		want api.Errno
	}{
		{dir(), nil, api.OK}, {full(), nil, api.OK}, {dir(), full().Entries, api.OK}, {seven, []api.Entry{entry("b", 1)}, api.OK},
		{full(), []api.Entry{entry("b", 1)}, api.ErrMany}, {seven, []api.Entry{entry("b", 1), entry("d", 1)}, api.ErrMany},
		{full(), []api.Entry{entry("a", 1)}, api.ErrExists}, {full(), []api.Entry{entry("o", 1)}, api.ErrExists},
		{full(), []api.Entry{entry("b", 0)}, api.ErrArg}, {full(), []api.Entry{entry("a", 25)}, api.ErrArg}, {full(), []api.Entry{entry("", 1)}, api.ErrArg},
		{dir(), []api.Entry{entry("x", 1), entry("x", 1)}, api.ErrExists}, {dir(), []api.Entry{entry("x", 1), entry("x", 0)}, api.ErrArg},
		{seven, []api.Entry{entry("b", 1), entry("b", 1)}, api.ErrExists}, {seven, []api.Entry{entry("b", 1), entry("c", 0)}, api.ErrArg},
		{seven, []api.Entry{entry("b", 1), entry("d", 1), entry("d", 0)}, api.ErrMany}, {seven, []api.Entry{entry("a", 1), entry("d", 0)}, api.ErrExists},
		{seven, []api.Entry{entry("d", 0), entry("a", 1)}, api.ErrArg}, {dir(), make([]api.Entry, 1000), api.ErrArg},
	} {
		if e := holdsWith(t, c.n, c.more...); e != c.want {
			t.Errorf("%d: %v, not %v", i, e, c.want)
		}
	}
	for _, s := range wrongNames {
		holdsWith(t, dir(), entry(s, 1))
		holdsWith(t, dir(), entry("fine", 1), entry(s, 1))
	}
	for _, i := range odd {
		holdsWith(t, dir(), entry("a", i))
		holdsWith(t, full(), entry("a", i))
	}
}

// P18.2: each entry comes to its place, in whatever order they come.
func TestWithPlaces(t *testing.T) {
	r := rand.New(rand.NewSource(2))
	counts := map[api.Errno]int{}
	for range 20000 {
		n := someDir(r, 8)
		var more []api.Entry
		for range r.Intn(5) {
			e := entry(someNames[r.Intn(len(someNames))], 1+r.Intn(24))
			if r.Intn(20) == 0 {
				e.Inode = odd[r.Intn(len(odd))]
			}
			if r.Intn(20) == 0 {
				e.Name = wrongNames[r.Intn(len(wrongNames))]
			}
			more = append(more, e)
		}
		counts[holdsWith(t, n, more...)]++
	}
	for _, e := range []api.Errno{api.OK, api.ErrArg, api.ErrExists, api.ErrMany} {
		if counts[e] < 100 {
			t.Errorf("%v only %d times", e, counts[e])
		}
	}
}

// plainWithout is Without by the chapter's words.
func plainWithout(n api.Inode, names []string) api.Inode {
	left := api.Inode{Kind: n.Kind, Size: n.Size}
	for _, e := range n.Entries {
		if !slices.Contains(names, e.Name) {
			left.Entries = append(left.Entries, e)
		}
	}
	return left
}

// P18.2: Without of any names, of inodes right or not.
func TestWithout(t *testing.T) {
	r := rand.New(rand.NewSource(3))
	list := slices.Concat(rights(), wrongs()[:40])
	list = append(list, dir(entry("a", 1), entry("b", 2), entry("a", 3), entry("a", 4), entry("", 0), entry("c", -5), entry("a", 9)))
	for _, n := range list {
		for range 20 {
			var names []string
			for _, e := range n.Entries {
				if r.Intn(3) == 0 {
					names = append(names, e.Name)
				}
			}
			for range r.Intn(3) {
				names = append(names, someNames[r.Intn(len(someNames))])
			}
			r.Shuffle(len(names), func(i, j int) { names[i], names[j] = names[j], names[i] })
			if got, is := inode.Without(n, names...), plainWithout(n, names); !same(got, is) {
				t.Errorf("%v without %q: %v", n, names, got)
			}
		}
		if got := inode.Without(n); !same(got, n) {
			t.Errorf("%v without none: %v", n, got)
		}
	}
	if n := inode.Without(full(), "a", "o", "g", "a", "x", ""); fmt.Sprint(n) != "{2 0 [{c 23} {e 22} {i 20} {k 19} {m 18}]}" {
		t.Error(n)
	}
}

// P18.3: Key of all numbers, those that no inode, or no chunk, has too.
func TestKey(t *testing.T) {
	numbers := slices.Clone(odd)
	for i := -20; i < 300; i++ {
		numbers = append(numbers, i)
	}
	numbers = append(numbers, math.MinInt/8, math.MinInt/8+1, math.MaxInt/8, math.MaxInt/8+1, 1<<61, 1<<61+1, 1<<62)
	keys := map[int]int{}
	for _, i := range numbers {
		for _, chunk := range numbers {
			want := -1
			if i >= 1 && i <= 24 && chunk >= 0 && chunk <= 6 {
				want = 8*i + chunk
				keys[want] = i
			}
			if got := inode.Key(i, chunk); got != want {
				t.Errorf("Key(%d, %d): %d", i, chunk, got)
			}
		}
	}
	if len(keys) != 24*7 || inode.Key(1, 0) != 8 || inode.Key(1, 6) != 14 || inode.Key(24, 0) != 192 || inode.Key(24, 6) != 198 {
		t.Errorf("%d keys", len(keys))
	}
}

// P18.3: Chunks of any size, against numbers that have no end.
func TestChunks(t *testing.T) {
	list := slices.Clone(odd)
	for i := -300; i < 2000; i++ {
		list = append(list, i)
	}
	for i := range 300 {
		list = append(list, math.MaxInt-i, math.MinInt+i, math.MaxInt32-i, math.MinInt32+i)
	}
	for _, size := range list {
		want := new(big.Int)
		if size > 0 {
			want.Add(big.NewInt(int64(size)), big.NewInt(127))
			want.Div(want, big.NewInt(128))
		}
		if got := inode.Chunks(size); big.NewInt(int64(got)).Cmp(want) != 0 {
			t.Errorf("%d: %d, not %v", size, got, want)
		}
	}
	for size, want := range map[int]int{-1: 0, 0: 0, 1: 1, 127: 1, 128: 1, 129: 2, 256: 2, 257: 3, 640: 5, 641: 6, 768: 6, 769: 7} {
		if got := inode.Chunks(size); got != want {
			t.Errorf("%d: %d, not %d", size, got, want)
		}
	}
}

// P18.4: what is handed in stays, its spare room too, and isn't kept; answers are new memory.
func TestOwnMemory(t *testing.T) {
	whole := full().Entries
	n := dir(whole[:5]...)
	more := []api.Entry{entry("b", 1), entry("spare", 2)}
	names := []string{"c", "a", "spare"}
	told := func() string { return fmt.Sprint(whole, n, more, names) }
	was := told()
	for _, do := range []struct {
		what string
		call func() api.Inode
	}{
		{"With", func() api.Inode { x, _ := inode.With(n, more[:1]...); return x }},
		{"With of none", func() api.Inode { x, _ := inode.With(n); return x }},
		{"Without", func() api.Inode { return inode.Without(n, names[:2]...) }},
		{"Without of none", func() api.Inode { return inode.Without(n) }},
		{"Without of others", func() api.Inode { return inode.Without(n, "x") }},
		{"Without of all", func() api.Inode { return inode.Without(n, "a", "c", "e", "g", "i") }},
		{"a With that breaks off", func() api.Inode { x, _ := inode.With(n, entry("b", 1), entry("", 0)); return x }},
	} {
		one, two := do.call(), do.call()
		kept := fmt.Sprint(two)
		one.Entries = one.Entries[:cap(one.Entries)]
		for i := range one.Entries {
			one.Entries[i] = entry("gone", -7)
		}
		if told() != was || fmt.Sprint(two) != kept {
			t.Errorf("%s: %s, %v", do.what, told(), two)
		}
		whole[0], more[0], names[0] = entry("gone", -7), entry("gone", -7), "gone"
		if fmt.Sprint(two) != kept {
			t.Errorf("%s: what was handed in is kept: %v", do.what, two)
		}
		whole[0], more[0], names[0] = entry("a", 24), entry("b", 1), "c"
	}
	inode.Check(n)
	inode.Write(n)
	inode.Find(n, "g")
	if told() != was {
		t.Error("Check, Write or Find changes what is handed in")
	}
}
