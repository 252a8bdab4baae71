package name_test

import (
	"fmt"
	"slices"
	"strings"
	"testing"

	"keelson/api"
	"keelson/name"
)

// plainRight tells by the chapter's words whether a text is a name.
func plainRight(s string) bool {
	if len(s) < 1 || len(s) > 12 || s == "." || s == ".." {
		return false
	}
	for i := range len(s) {
		if s[i] == 47 || s[i] == 0 {
			return false
		}
	}
	return true
}

// plainSplit gives by the chapter's words a path's names, and whether it is one.
func plainSplit(path string) ([]string, bool) {
	if path == "/" {
		return nil, true
	}
	var names []string
	for i := range len(path) {
		switch {
		case path[i] == 47:
			names = append(names, "")
		case len(names) == 0:
			return nil, false
		default:
			names[len(names)-1] += path[i : i+1]
		}
	}
	for _, s := range names {
		if !plainRight(s) {
			return nil, false
		}
	}
	return names, len(names) >= 1 && len(names) <= 6
}

// plainWithin tells by texts alone whether a path is another one, or beneath it.
func plainWithin(path, top string) bool {
	_, one := plainSplit(path)
	_, two := plainSplit(top)
	return one && two && (path == top || top == "/" || strings.HasPrefix(path, top+"/"))
}

// holdsRight tells unless a text is a name just if it is one.
func holdsRight(t *testing.T, s string) {
	t.Helper()
	if got := name.Right(s); got != plainRight(s) {
		t.Errorf("Right(%q): %v", s, got)
	}
}

// holdsSplit tells unless a text is cut into names as it should be, and put together again.
func holdsSplit(t *testing.T, s string) {
	t.Helper()
	got, e := name.Split(s)
	want, ok := plainSplit(s)
	if !ok {
		if e != api.ErrName || len(got) != 0 {
			t.Errorf("Split(%q): %q, %v", s, got, e)
		}
		return
	}
	if e != api.OK || !slices.Equal(got, want) {
		t.Errorf("Split(%q): %q, %v", s, got, e)
	}
	if back, e := name.Join(got...); back != s || e != api.OK {
		t.Errorf("Join(%q): %q, %v", got, back, e)
	}
}

// words gives all texts of some letters, up to so many of them.
func words(letters []string, most int) []string {
	all, last := []string{""}, []string{""}
	for range most {
		var next []string
		for _, s := range last {
			for _, letter := range letters {
				next = append(next, s+letter)
			}
		}
		all, last = append(all, next...), next
	}
	return all
}

// P17.1: the chapter's examples.
func TestExamples(t *testing.T) {
	if got, e := name.Split("/a/b"); !slices.Equal(got, []string{"a", "b"}) || e != api.OK {
		t.Errorf("%q, %v", got, e)
	}
	for _, s := range []string{"/a/", "//a"} {
		if got, e := name.Split(s); len(got) != 0 || e != api.ErrName {
			t.Errorf("%q: %q, %v", s, got, e)
		}
	}
	if name.Within("/ab", "/a") {
		t.Error("/ab is within /a")
	}
}

// P17.1: Right of each length, and of each byte at each place of a name.
func TestRight(t *testing.T) {
	for size := range 300 {
		s := strings.Repeat("x", size)
		if name.Right(s) != (size >= 1 && size <= 12) {
			t.Errorf("%d bytes: %v", size, name.Right(s))
		}
	}
	for size := 1; size <= 13; size++ {
		for place := range size {
			for b := range 256 {
				s := []byte(strings.Repeat("x", size))
				s[place] = byte(b)
				holdsRight(t, string(s))
			}
		}
	}
}

// P17.1: Right counts bytes, whatever they stand for, and only . and .. as a whole are no names.
func TestRightEdges(t *testing.T) {
	for s, want := range map[string]bool{
		"": false, ".": false, "..": false, "...": true, "....": true, ".a": true, "a.": true, "..a": true, " ": true, "\n": true, "\\": true,
		"\u00e4\u00e4\u00e4\u00e4\u00e4\u00e4": true, "\u00e4\u00e4\u00e4\u00e4\u00e4\u00e4\u00e4": false, "\u20ac\u20ac\u20ac\u20ac": true, "\u20ac\u20ac\u20ac\u20ac.": false,
		"\xff": true, "\x80\x80": true, "\xc0\xaf": true, "\xc0\x80": true, "\uff0f": true, "\ufffd": true, "\xff\xff\xff\xff\xff\xff\xff\xff\xff\xff\xff\xff": true,
		"/": false, "\x00": false, "a/b": false, "a/": false, "/a": false, "a\x00": false, "\x00a": false, "\xff/\xff": false, "\xff\x00\xff": false,
	} {
		if name.Right(s) != want {
			t.Errorf("%q: %v", s, name.Right(s))
		}
		holdsRight(t, s)
	}
}

// P17.1: Right, Split and Join of all short texts of the letters that matter.
func TestShortTexts(t *testing.T) {
	for _, s := range words([]string{"/", ".", "a", "\x00", "\xff"}, 6) {
		holdsRight(t, s)
		holdsSplit(t, s)
	}
	for _, s := range words([]string{"/", "ab"}, 15) {
		holdsSplit(t, s)
	}
}

// P17.1: Split and Join of so many names, of each length.
func TestDepth(t *testing.T) {
	for depth := range 40 {
		for size := range 15 {
			names := slices.Repeat([]string{strings.Repeat("n", size)}, depth)
			want, fits := "/"+strings.Join(names, "/"), depth == 0 || depth <= 6 && size >= 1 && size <= 12
			got, e := name.Join(names...)
			if fits && (got != want || e != api.OK) || !fits && (got != "" || e != api.ErrName) {
				t.Errorf("Join of %d names of %d bytes: %q, %v", depth, size, got, e)
			}
			list, e := name.Split(want)
			if fits && (!slices.Equal(list, names) || e != api.OK) || !fits && want != "/" && (len(list) != 0 || e != api.ErrName) {
				t.Errorf("Split of %d names of %d bytes: %q, %v", depth, size, list, e)
			}
		}
	}
}

// P17.1: a name that is none at each place of a path.
func TestOneWrongName(t *testing.T) {
	for _, wrong := range []string{"", ".", "..", "a/b", "/", "\x00", "a\x00", "thirteen-byte", "//", "/a", "a/"} {
		for depth := 1; depth <= 7; depth++ {
			for place := range depth {
				names := slices.Repeat([]string{"ok"}, depth)
				names[place] = wrong
				if got, e := name.Join(names...); got != "" || e != api.ErrName {
					t.Errorf("Join(%q): %q, %v", names, got, e)
				}
				holdsSplit(t, "/"+strings.Join(names, "/"))
			}
		}
	}
}

// P17.1: the order of names stays, and one may be there several times.
func TestOrder(t *testing.T) {
	for _, names := range [][]string{{"b", "a"}, {"a", "b"}, {"a", "a", "a"}, {"f", "e", "d", "c", "b", "a"}, {"...", "twelve-bytes", "\xff", " "}} {
		path, e := name.Join(names...)
		if path != "/"+strings.Join(names, "/") || e != api.OK {
			t.Errorf("%q: %q, %v", names, path, e)
		}
		holdsSplit(t, path)
	}
}

// P17.2: Within of all pairs of many texts.
func TestWithin(t *testing.T) {
	list := words([]string{"/", "a", "b"}, 5)
	list = append(list, "/.", "/..", "/a/.", "/a/..", "/...", "/a/...", "/a\x00", "/thirteen-byte", "/twelve-bytes", "/twelve-bytes/a", "/twelve-byte")
	for depth := 1; depth <= 8; depth++ {
		list = append(list, strings.Repeat("/a", depth), strings.Repeat("/a", depth)+"/", strings.Repeat("/a", depth)+"b")
	}
	for _, path := range list {
		for _, top := range list {
			if got := name.Within(path, top); got != plainWithin(path, top) {
				t.Errorf("Within(%q, %q): %v", path, top, got)
			}
		}
	}
}

// P17.2: Within, word by word.
func TestWithinEdges(t *testing.T) {
	for _, c := range []struct {
		path, top string
		want      bool
	}{
		{"/", "/", true}, {"/a", "/", true}, {"/a/b/c/d/e/f", "/", true}, {"/a/b/c/d/e/f", "/a/b/c/d/e/f", true}, {"/a/b/c/d/e/f", "/a/b/c/d/e", true},
		{"/", "/a", false}, {"/a", "/a/b", false}, {"/b", "/a", false}, {"/b/a", "/a", false}, {"/a/c", "/a/b", false}, {"/a/b", "/b", false}, {"/b/b", "/a/b", false},
		{"/ab", "/a", false}, {"/a", "/ab", false}, {"/ab/c", "/a", false},
		{"", "", false}, {"a", "a", false}, {"/a/", "/a", false}, {"/a", "/a/", false}, {"/a/", "/a/", false}, {"/a", "", false}, {"", "/", false}, {"//", "/", false},
		{"/a/b/c/d/e/f/g", "/", false}, {"/a/b/c/d/e/f/g", "/a", false}, {"/a/..", "/a", false}, {"/a/.", "/a", false}, {"/a/b", "/.", false},
	} {
		if name.Within(c.path, c.top) != c.want || plainWithin(c.path, c.top) != c.want {
			t.Errorf("Within(%q, %q): %v", c.path, c.top, !c.want)
		}
	}
}

// P17.3: what is handed in stays, its spare room too; answers are new memory.
func TestOwnMemory(t *testing.T) {
	one, _ := name.Split("/a/b/c")
	two, _ := name.Split("/a/b/c")
	one = one[:cap(one)]
	for i := range one {
		one[i] = "x"
	}
	if !slices.Equal(two, []string{"a", "b", "c"}) {
		t.Errorf("two answers share memory: %q", two)
	}
	names := []string{"a", "b", "c", "spare", "room"}
	for n := range len(names) + 1 {
		name.Join(names[:n]...)
	}
	if !slices.Equal(names, []string{"a", "b", "c", "spare", "room"}) {
		t.Errorf("the names were changed: %q", names)
	}
}

// wild calls everything with arguments of all kinds, and gives all that was answered.
func wild() []string {
	var all []string
	note := func(a ...any) { all = append(all, fmt.Sprint(a...)) }
	long := strings.Repeat("/", 1<<22)
	list := []string{"", "/", "a", "/a", "//", "\x00", "\xff", "/a/b", "/..", long, strings.Repeat("/a", 1<<20), strings.Repeat("a", 1<<22), "/" + strings.Repeat("\xff", 1<<20)}
	for _, s := range list {
		names, e := name.Split(s)
		note(name.Right(s), names, e)
		for _, other := range list {
			path, e := name.Join(s, other)
			note(name.Within(s, other), path, e)
		}
		path, e := name.Join(slices.Repeat([]string{s}, 1<<16)...)
		note(path, e)
	}
	path, e := name.Join()
	note(path, e)
	return all
}

// P1, P2: no call panics, whatever it is given, and two runs of the same calls give the same answers.
func TestWild(t *testing.T) {
	if !slices.Equal(wild(), wild()) {
		t.Error("two runs give different answers")
	}
}
