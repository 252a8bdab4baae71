package fs_test

import (
	"fmt"
	"math/rand"
	"slices"
	"strings"
	"testing"

	"keelson/api"
	"keelson/fs"
	"keelson/mirror"
	"keelson/nand"
	"keelson/plain"
	"keelson/resync"
	"keelson/scrub"
	"keelson/view"
)

// wild is files over chips to which anything is done, by anyone.
type wild struct {
	rand  *rand.Rand
	tie   *view.Tie
	chips []*nand.Chip
	m     *mirror.Mirror
	f     []*fs.FS
	back  *resync.Resync
	scrub *scrub.Scrub
	told  []string
	more  []string // what was told beside errors
}

func newWild(seed int64) *wild {
	x := &wild{rand: rand.New(rand.NewSource(seed)), tie: view.NewTie()}
	powers := []*nand.Power{nand.NewPower(), nand.NewPower()}
	for i := range 3 {
		c, _ := nand.New(powers[i/2*x.rand.Intn(2)], 16+x.rand.Intn(3), 2+x.rand.Intn(14))
		x.chips = append(x.chips, c)
	}
	m, _ := mirror.Make(x.tie, x.chips[0], x.chips[1])
	x.opened(m)
	x.files(fs.Format(m))
	return x
}

func (x *wild) tell(what ...any) { x.told = append(x.told, fmt.Sprintln(what...)) }

func (x *wild) chip() *nand.Chip { return x.chips[x.rand.Intn(len(x.chips))] }

// opened lets a mirror be the one at hand.
func (x *wild) opened(m *mirror.Mirror) {
	x.m, x.back, x.scrub = m, resync.New(m), scrub.New(m)
}

// files lets files be at hand, beside those that were.
func (x *wild) files(f *fs.FS, e api.Errno) {
	x.tell(f != nil, e)
	if f != nil {
		x.f = append(x.f, f)
	}
	x.f = x.f[max(0, len(x.f)-3):]
}

// oneOf gives one of a few.
func oneOf[T any](r *rand.Rand, list []T) T { return list[r.Intn(len(list))] }

// path gives a path of a few short names, or whatever else.
func (x *wild) path() string {
	if x.rand.Intn(12) == 0 {
		return oneOf(x.rand, plain.WrongPaths())
	}
	path := ""
	for range x.rand.Intn(4) {
		path += "/" + string(rune('a'+x.rand.Intn(3)))
	}
	if path == "" {
		return "/"
	}
	return path
}

func (x *wild) number() int {
	if x.rand.Intn(6) == 0 {
		return oneOf(x.rand, plain.Odd())
	}
	return x.rand.Intn(300)
}

func (x *wild) op() api.Op {
	o := api.Op{Kind: x.rand.Intn(15), Path: x.path(), To: x.path(), H: x.rand.Intn(4), Off: x.number(), N: x.number()}
	if x.rand.Intn(40) == 0 {
		o.Kind, o.H = oneOf(x.rand, plain.Odd()), oneOf(x.rand, plain.Odd())
	}
	if x.rand.Intn(3) > 0 {
		o.Data = plain.Text(x.rand.Intn(400), x.rand.Intn(99))
	}
	return o
}

// bends does something to a chip, the power, the tie, or the mirror beneath the files.
func (x *wild) bends() {
	c := x.chip()
	switch x.rand.Intn(12) {
	case 0:
		c.Put(false)
	case 1, 2, 3:
		c.Put(true)
	case 4:
		c.Cut(x.rand.Intn(20)-1, x.rand.Intn(300)-10)
	case 5, 6:
		c.On()
	case 7:
		for range x.rand.Intn(60) {
			c.Flip(x.rand.Intn(16), x.rand.Intn(8), x.rand.Intn(2064))
		}
	case 8:
		c.Fail(x.rand.Intn(2) == 0, x.rand.Intn(9), x.rand.Intn(9))
	case 9:
		x.tell(x.tie.Set(api.View{Number: uint64(x.rand.Intn(30)), Members: 1 + x.rand.Intn(3), Base: uint64(x.rand.Intn(20))}))
	default:
		key, body := 8*(1+x.rand.Intn(4))+x.rand.Intn(3), plain.Text(x.rand.Intn(140), 1)
		if x.rand.Intn(2) == 0 {
			// Directories that stand wherever, in themselves, too.
			body = []byte{2, 2, byte(1 + x.rand.Intn(4)), 1, 'a', byte(x.rand.Intn(30)), 1, 'b'}
		}
		x.tell(x.m.Commit(api.Change{Key: key, Gone: x.rand.Intn(4) == 0, Body: body}))
	}
}

func (x *wild) step() {
	switch n := x.rand.Intn(30); {
	case n == 0:
		if m, e := mirror.Open(x.tie, x.chip(), x.chip()); e == api.OK {
			x.opened(m)
		}
	case n == 1:
		x.m.Replace(x.rand.Intn(3), x.chip())
	case n < 4:
		x.files(fs.Mount(x.m))
	case n == 4:
		x.files(fs.Format(x.m))
	case n < 10:
		x.bends()
	case n < 12:
		for range x.rand.Intn(30) {
			x.tell(x.back.Step())
		}
	case n < 14:
		for range x.rand.Intn(300) {
			x.tell(x.scrub.Step())
		}
	case len(x.f) > 0:
		f, o := x.f[x.rand.Intn(len(x.f))], x.op()
		a := f.Do(o)
		x.tell(o, a)
		if a.Code != api.OK && !plain.Same(a, api.Answer{Code: a.Code}) {
			x.more = append(x.more, fmt.Sprint(o, a))
		}
	}
	x.tell(x.m.Epoch(), x.m.Live(), x.m.View(), x.m.Seen(0), x.m.Seen(1))
}

// P1, P2, P23.2: whatever is done, by whomever, each call ends, none panics, beside an error there is nothing, and two runs give the same answers and do the same acts.
func TestWild(t *testing.T) {
	t.Parallel()
	for seed := range int64(80) {
		one, two := newWild(seed), newWild(seed)
		for range 250 {
			one.step()
			two.step()
		}
		if !slices.Equal(one.told, two.told) {
			t.Errorf("seed %d: two runs differ", seed)
		}
		if len(one.more) > 0 {
			t.Errorf("seed %d: more than an error: %v", seed, one.more)
		}
		for i := range one.chips {
			if one.chips[i].Count() != two.chips[i].Count() {
				t.Errorf("seed %d: the chip %d: %d acts, and %d", seed, i, one.chips[i].Count(), two.chips[i].Count())
			}
		}
	}
}

// P1: paths and bytes may be of any length.
func TestLong(t *testing.T) {
	x := made(t, "long", 16)
	x.grows()
	x.oks(op(api.OpOpen, "/f"))
	data := make([]byte, 1<<22)
	for _, path := range []string{strings.Repeat("/a", 1<<20), strings.Repeat("/", 1<<22), "/" + strings.Repeat("a", 1<<22), strings.Repeat("\xff", 1<<22)} {
		for _, kind := range kinds {
			if kind == api.OpSync {
				continue
			}
			for _, o := range []api.Op{{Kind: kind, Path: path, To: path, H: 1, N: 1 << 40, Data: data}, {Kind: kind, Path: "/f", To: path, H: 1, Off: -1, N: -1, Data: data}} {
				if kind != api.OpClose && kind != api.OpOpen {
					x.does(o)
				}
			}
		}
	}
	x.walks()
}
