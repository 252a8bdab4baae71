package fs_test

import (
	"fmt"
	"maps"
	"testing"

	"keelson/api"
	"keelson/fs"
	"keelson/mirror"
	"keelson/plain"
	"keelson/resync"
	"keelson/scrub"
)

// change is what is done ahead of the OpSync in which the power goes.
type change struct {
	name string
	do   func(x *scene)
}

// changes are done to the files that grows makes.
func changes() []change {
	return []change{
		{"nothing", func(*scene) {}},
		{"a directory", func(x *scene) { x.oks(op(api.OpMkdir, "/z/y")) }},
		{"bytes", func(x *scene) { x.oks(op(api.OpOpen, "/d/g"), write(1, 100, plain.Text(100, 8))) }},
		{"more bytes", func(x *scene) { x.oks(op(api.OpOpen, "/f"), write(1, 200, plain.Text(500, 8))) }},
		{"fewer bytes", func(x *scene) { x.oks(op(api.OpOpen, "/d/e/h"), api.Op{Kind: api.OpTruncate, H: 1, N: 130}) }},
		{"names", func(x *scene) {
			x.oks(op(api.OpRename, "/d/e", "/z/e"), op(api.OpRename, "/f", "/d/f"), op(api.OpRename, "/z/e/h", "/h"))
		}},
		{"all is gone", func(x *scene) {
			x.oks(op(api.OpUnlink, "/f"), op(api.OpUnlink, "/d/g"), op(api.OpUnlink, "/d/e/h"), op(api.OpRmdir, "/d/e"), op(api.OpRmdir, "/d"), op(api.OpRmdir, "/z"))
		}},
		{"all is new", func(x *scene) {
			x.oks(op(api.OpUnlink, "/f"), op(api.OpRename, "/d/g", "/f"), op(api.OpOpen, "/f"), write(1, 0, plain.Text(250, 7)), op(api.OpUnlink, "/d/e/h"))
			x.oks(op(api.OpRename, "/d/e", "/e"), op(api.OpRmdir, "/z"))
			x.oks(write(x.files("/e/h", plain.Text(768, 6)), 9, plain.Text(9, 9)))
		}},
	}
}

// grown gives a scene with files that are kept, that are a few OpSyncs old.
func grown(t *testing.T, what string) (*scene, plain.Kept) {
	t.Helper()
	x := made(t, what, 16)
	x.grows()
	for i := range 3 {
		x.oks(op(api.OpSync), op(api.OpOpen, "/f"), write(1, i, []byte("old")), api.Op{Kind: api.OpClose, H: 1})
	}
	return x, x.syncs()
}

// ways are the ways to go on behind a cut: with the files as they are, or Mounted anew, with both chips, or with one of them at first.
const ways = 4

// goesOn goes on behind a cut: what is there then must be among some trees, and one of them from then on, with either chip; and the files go on.
func (x *scene) goesOn(way int, may ...plain.Kept) {
	x.t.Helper()
	x.p.On()
	if way == 0 {
		x.walks()
		x.walks()
		may = append(may, x.syncs())
		x.opened(x.plain.Kept())
		may = may[len(may)-1:]
	}
	without := way - 2
	if without >= 0 {
		x.chips[without].Put(false)
	}
	x.reopens()
	f, e := fs.Mount(x.m)
	x.want("Mount", e, api.OK)
	got := plain.Read(f.Do)
	if !got.In(may...) {
		x.t.Fatalf("%s: %q, not one of %q", x.what, got, may)
	}
	x.opens(got)
	for _, c := range x.chips {
		c.Put(true)
	}
	x.opens(got)
	x.comesBack()
	x.walks()
	x.does(op(api.OpMkdir, "/then")) // where there is room for it
	x.alone(x.syncs())
}

// comesBack does Steps of a Resync, until both chips are members.
func (x *scene) comesBack() {
	x.t.Helper()
	back := resync.New(x.m)
	for range back.Most() {
		done, e := back.Step()
		x.want("a Step", e, api.OK)
		if done {
			return
		}
	}
	x.t.Fatalf("%s: the chips don't come back", x.what)
}

// alone tells unless either chip alone has that tree; the chip 0 is fenced out then.
func (x *scene) alone(k plain.Kept) {
	x.t.Helper()
	for chip := range x.chips {
		x.chips[1-chip].Put(false)
		x.walks()
		x.chips[1-chip].Put(true)
	}
	x.chips[1].Put(false)
	x.opens(k)
	x.chips[1].Put(true)
	x.opens(k)
	x.comesBack()
	x.chips[0].Put(false)
	x.opens(k)
}

// P23.4: wherever the power goes in an OpSync, and whatever is kept of that act: what is Mounted is the tree ahead of it, or the one behind it, whole.
func TestCutInSync(t *testing.T) {
	t.Parallel()
	for _, c := range changes() {
		t.Run(c.name, func(t *testing.T) {
			t.Parallel()
			for i, keep := range keeps {
				met := [3]int{}
				for after := 0; ; after++ {
					x, ahead := grown(t, fmt.Sprintf("%s, Cut(%d, %d)", c.name, after, keep))
					c.do(x)
					behind := x.plain.Kept()
					x.p.Cut(after, keep)
					a := x.f.Do(op(api.OpSync))
					if a.Code == api.OK {
						x.p.On()
						x.opens(behind)
						break
					}
					if !plain.Same(a, api.Answer{Code: api.ErrDown}) {
						t.Fatalf("%s: %v", x.what, a)
					}
					x.asks("no power", api.ErrDown)
					x.goesOn((i+after)%ways, ahead, behind)
					met[0]++
				}
				if c.name != "nothing" && met[0] < 4 {
					t.Errorf("%s: %d acts", c.name, met[0])
				}
			}
		})
	}
}

// P23.4: and so it is if the power goes again in the mount, in each act of it.
func TestCutInMount(t *testing.T) {
	t.Parallel()
	for _, c := range changes()[2:6] {
		for first := range 8 {
			for way := 1; way < ways; way++ {
				for after := 0; ; after++ {
					keep := keeps[(first+way+after)%len(keeps)]
					x, ahead := grown(t, fmt.Sprintf("%s, Cut(%d), in the mount %d, Cut(%d, %d)", c.name, first, way, after, keep))
					c.do(x)
					behind := x.plain.Kept()
					x.p.Cut(first, 77)
					x.f.Do(op(api.OpSync))
					x.p.On()
					if way > 1 {
						x.chips[way-2].Put(false)
					}
					x.p.Cut(after, keep)
					m, e := mirror.Open(x.tie, x.chips[0], x.chips[1])
					if e == api.OK {
						x.m = m
						x.p.On()
						break
					}
					x.want("Open", e, api.ErrDown)
					x.goesOn(1, ahead, behind)
				}
			}
		}
	}
}

// P23.4: wherever the power goes in a Step, with changes that aren't kept yet: what is Mounted is what is kept; with the same files the changes are there still.
func TestCutInSteps(t *testing.T) {
	t.Parallel()
	for _, kind := range []string{"a resync", "a resync from nothing", "a scrub"} {
		t.Run(kind, func(t *testing.T) {
			t.Parallel()
			for after := 0; ; after++ {
				keep := keeps[after%len(keeps)]
				x, _ := grown(t, fmt.Sprintf("%s, Cut(%d, %d)", kind, after, keep))
				switch kind {
				case "a scrub":
					for block := range 16 {
						x.chips[block%2].Flip(block, block%8, 99)
						x.chips[1-block%2].Flip(block, 1+block%7, 33)
					}
				case "a resync from nothing":
					x.fences(1)
					x.chips[1] = x.blank(16)
					x.f.Replace(1, x.chips[1])
				default:
					x.fences(0)
				}
				ahead := x.syncs()
				x.oks(op(api.OpUnlink, "/f"), op(api.OpOpen, "/d/g"), write(1, 99, plain.Text(200, 8)))
				x.p.Cut(after, keep)
				step := resync.New(x.m).Step
				if kind == "a scrub" {
					step = scrub.New(x.m).Step
				}
				done, e := false, api.OK
				for !done && e == api.OK {
					done, e = step()
					if !x.p.Off() {
						x.walks()
					}
				}
				if e == api.OK {
					x.p.On()
					x.alone(x.syncs())
					break
				}
				x.want("a Step", e, api.ErrDown)
				x.asks("no power", api.ErrDown)
				x.goesOn(after%3%2, ahead)
			}
		})
	}
}

// P23.4: of several OpSyncs in which the power went, one behind the other, what is Mounted is one's whole, or what was kept ahead of them; once it is Mounted the others never come back.
func TestCutAgain(t *testing.T) {
	t.Parallel()
	for first := range 14 {
		for second := range 14 {
			x, ahead := grown(t, fmt.Sprintf("Cut(%d), Cut(%d)", first, second))
			may := []plain.Kept{ahead}
			for i, after := range []int{first, second} {
				x.oks(op(api.OpOpen, "/d/g"), write(i+1, 60*i, plain.Text(100, i)), op(api.OpMkdir, fmt.Sprint("/", i)))
				may = append(may, x.plain.Kept())
				x.p.Cut(after, keeps[(first+second)%len(keeps)])
				a := x.f.Do(op(api.OpSync))
				x.p.On()
				if a.Code == api.OK {
					x.plain.Do(op(api.OpSync))
					may = may[len(may)-1:]
				}
			}
			x.goesOn((first+second)%ways, may...)
		}
	}
}

// P23.4: what was Mounted last is what counts, also where the chip that isn't there has the OpSync whole.
func TestMountedLast(t *testing.T) {
	t.Parallel()
	met := [2][2]int{} // by the chip that is there, ahead of it or behind it
	for chip := range 2 {
		for _, keep := range []int{0, 200, 258} {
			for after := 0; ; after++ {
				x, ahead := grown(t, fmt.Sprintf("the chip %d, Cut(%d, %d)", chip, after, keep))
				x.oks(op(api.OpUnlink, "/f"))
				behind := x.plain.Kept()
				x.p.Cut(after, keep)
				if x.f.Do(op(api.OpSync)).Code == api.OK {
					break
				}
				x.p.On()
				x.chips[1-chip].Put(false)
				x.reopens()
				f, e := fs.Mount(x.m)
				x.want("Mount", e, api.OK)
				got := plain.Read(f.Do)
				if !got.In(ahead, behind) {
					t.Fatalf("%s: %q", x.what, got)
				}
				if maps.Equal(got, ahead) {
					met[chip][0]++
				} else {
					met[chip][1]++
				}
				x.stays(chip, got)
			}
		}
	}
	if met[0][0] == 0 || met[0][1] == 0 || met[1][0] == 0 || met[1][1] == 0 {
		t.Error(met)
	}
}

// stays tells unless a tree that was Mounted with a chip alone stays, whatever the other chip has.
func (x *scene) stays(chip int, k plain.Kept) {
	x.t.Helper()
	x.chips[1-chip].Put(true)
	x.opens(k)
	x.chips[chip].Put(false)
	if m, e := mirror.Open(x.tie, x.chips[0], x.chips[1]); m != nil || e != api.ErrStale {
		x.t.Fatalf("%s: the other chip alone: %v", x.what, e)
	}
	x.chips[chip].Put(true)
	x.opens(k)
	x.comesBack()
	x.chips[chip].Put(false)
	x.opens(k)
}
