package tree_test

import (
	"fmt"
	"maps"
	"math/rand"
	"slices"
	"strings"
	"testing"

	"keelson/api"
	"keelson/cache"
	"keelson/file"
	"keelson/mirror"
	"keelson/nand"
	"keelson/tree"
	"keelson/view"
)

// somePath gives a path, mostly one that is there, or one beneath one.
func somePath(r *rand.Rand, p *plain) string {
	paths := slices.Sorted(maps.Keys(p.items))
	path := paths[r.Intn(len(paths))]
	if r.Intn(3) == 0 {
		path = paths[0] // the top fills up
	}
	if r.Intn(3) == 0 {
		path += "/" + string(rune('a'+r.Intn(12)))
	}
	switch {
	case path == "":
		return "/"
	case r.Intn(40) == 0:
		return wrongPaths[r.Intn(len(wrongPaths))]
	}
	return path
}

// step does one thing of a random script, and tells which call was it, and what it answered.
func step(x *pair, r *rand.Rand) (string, api.Errno) {
	x.t.Helper()
	path, kind := somePath(r, x.p), 1+r.Intn(2)
	if r.Intn(50) == 0 {
		kind = oddKinds[r.Intn(len(oddKinds))]
	}
	switch r.Intn(12) {
	case 0:
		return "Find", x.finds(path)
	case 1:
		return "List", x.lists(path)
	case 2:
		return "Remove", x.removes(path, kind)
	case 3, 4, 5, 6:
		return "Rename", x.renames(path, somePath(r, x.p))
	case 7:
		if y, e := x.p.find(path); e == api.OK && y.kind == api.File && y.size < 300 {
			if file.Truncate(x.c, y.number, y.size+100) == api.OK {
				y.size += 100
				x.p.items[path] = y
			}
		}
		return "", api.OK
	}
	if r.Intn(2) > 0 {
		path = strings.TrimSuffix(path, "/") + "/" + string(rune('a'+r.Intn(12)))
	}
	return "Make", x.makes(path, kind)
}

// P21.1 to P21.4: random scripts, against the chapter's words; each answer is met.
func TestScripts(t *testing.T) {
	t.Parallel()
	met := map[string]map[api.Errno]bool{"": {}, "Find": {}, "List": {}, "Make": {}, "Remove": {}, "Rename": {}}
	for seed := range int64(120) {
		r := rand.New(rand.NewSource(seed))
		x := fresh(t, 10+r.Intn(25))
		for range 200 {
			call, e := step(x, r)
			met[call][e] = true
			if t.Failed() {
				t.Fatalf("seed %d", seed)
			}
		}
		for path := range x.p.items {
			x.finds(path + strings.Repeat("/", 1-min(len(path), 1)))
		}
	}
	for call, codes := range map[string][]api.Errno{
		"Find": {api.OK, api.ErrName, api.ErrNone, api.ErrNotDir}, "List": {api.OK, api.ErrName, api.ErrNone, api.ErrNotDir},
		"Make":   {api.OK, api.ErrName, api.ErrArg, api.ErrExists, api.ErrNone, api.ErrNotDir, api.ErrNoSpace, api.ErrMany},
		"Remove": {api.OK, api.ErrName, api.ErrArg, api.ErrNone, api.ErrNotDir, api.ErrIsDir, api.ErrNotEmpty},
		"Rename": {api.OK, api.ErrName, api.ErrArg, api.ErrNone, api.ErrNotDir, api.ErrLoop, api.ErrExists, api.ErrMany},
	} {
		for _, e := range codes {
			if !met[call][e] {
				t.Errorf("%s never answers %v", call, e)
			}
		}
	}
}

// P21.1 to P21.5: a tree over a mirror is kept, and comes back, by the changes alone.
func TestOverMirror(t *testing.T) {
	t.Parallel()
	for seed := range int64(6) {
		r, tie, power := rand.New(rand.NewSource(seed)), view.NewTie(), nand.NewPower()
		a, _ := nand.New(power, 16)
		b, _ := nand.New(power, 16)
		m, e := mirror.Make(tie, a, b)
		wants(t, "mirror.Make", e, api.OK)
		x := &pair{t, cache.New(m), newPlain(m.Limit())}
		wants(t, "Format", tree.Format(x.c), api.OK)
		wants(t, "Commit", m.Commit(x.c.Changes()...), api.OK)
		x.c.Clear()
		kept := x.p.clone()
		for i := range 150 {
			step(x, r)
			switch r.Intn(20) {
			case 0, 1:
				wants(t, "Commit", m.Commit(x.c.Changes()...), api.OK)
				x.c.Clear()
				kept = x.p.clone()
			case 2:
				x.c.Clear()
				x.p = kept.clone()
			case 3:
				m, e = mirror.Open(tie, a, b)
				wants(t, "mirror.Open", e, api.OK)
				x.c, x.p = cache.New(m), kept.clone()
			}
			x.holds()
			if t.Failed() {
				t.Fatalf("seed %d, step %d", seed, i)
			}
		}
	}
}

// run gives all that a random script over nodes of any kind answers.
func run(seed int64) []string {
	r := rand.New(rand.NewSource(seed))
	s := newShelf(r.Intn(60))
	name := func() string {
		if r.Intn(20) == 0 {
			return []string{"", "/", "twelve-bytes", "."}[r.Intn(4)]
		}
		return string(rune('a' + r.Intn(4)))
	}
	for number := 1; number <= 25; number++ {
		switch r.Intn(8) {
		case 0:
			s.nodes[8*number] = []byte{1, byte(r.Intn(256)), byte(r.Intn(4))}
		case 1:
			s.nodes[8*number] = make([]byte, r.Intn(9))
		case 2:
			s.faults[8*number] = api.Errno(r.Intn(80))
		default:
			names, b := []string{"a", "b", "c", "d"}[:r.Intn(5)], []byte{2, 0}
			for _, s := range names {
				b[1]++
				b = append(b, byte(r.Intn(26)), 1, s[0])
			}
			s.nodes[8*number] = b
		}
	}
	if seed%7 > 0 {
		s.nodes[8], s.faults[8] = []byte("\x02\x04\x02\x01a\x03\x01b\x04\x01c\x05\x01d"), api.OK
	}
	c := cache.New(s)
	var all []string
	note := func(a ...any) { all = append(all, fmt.Sprint(a...)) }
	path := func() string {
		p := ""
		for range r.Intn(8) {
			p += "/" + name()
		}
		return p
	}
	for range 150 {
		kind := 1 + r.Intn(2)
		if r.Intn(9) == 0 {
			kind = oddKinds[r.Intn(len(oddKinds))]
		}
		switch r.Intn(12) {
		case 0, 1:
			note(tree.Find(c, path()))
		case 2, 3:
			note(tree.Make(c, path(), kind))
		case 4, 5:
			note(tree.Remove(c, path(), kind))
		case 6, 7, 8:
			note(tree.Rename(c, path(), path()))
		case 9, 10:
			note(tree.List(c, path()))
		case 11:
			if r.Intn(20) == 0 {
				note(tree.Format(c))
			}
		}
		note(c.Changes())
	}
	return all
}

// P1, P2: whatever is handed in, and whatever stands in the nodes, no call panics, and two runs of the same calls give the same answers.
func TestWild(t *testing.T) {
	t.Parallel()
	for seed := range int64(200) {
		if !slices.Equal(run(seed), run(seed)) {
			t.Errorf("seed %d: two runs differ", seed)
		}
	}
	x := fresh(t, 99)
	for _, path := range []string{strings.Repeat("/a", 1<<20), strings.Repeat("/", 1<<22), "/" + strings.Repeat("a", 1<<22), strings.Repeat("\xff", 1<<22)} {
		x.finds(path)
		x.lists(path)
		x.makes(path, api.File)
		x.removes(path, api.File)
		x.renames(path, "/a")
		x.renames("/a", path)
	}
}
