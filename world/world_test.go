package world_test

import (
	"bytes"
	"fmt"
	"maps"
	"slices"
	"testing"

	"keelson/api"
	"keelson/plain"
	"keelson/world"
)

// P24.1: a world has 16 to 40 blocks.
func TestNewRefused(t *testing.T) {
	for _, blocks := range append([]int{15, 41, -16, 17 + 1<<32}, odd...) {
		if w, e := world.New(blocks); w != nil || e != api.ErrArg {
			t.Errorf("New(%d): %v, %v", blocks, w, e)
		}
	}
}

// P24.1, P24.3: two blank chips without bad blocks, with files over them that are mounted.
func TestNew(t *testing.T) {
	for blocks := 16; blocks <= 40; blocks++ {
		x := begun(t, fmt.Sprint(blocks, " blocks"), blocks)
		if !x.w.Mounted() || x.w.Off() || x.w.View() != (api.View{Number: 1, Members: 3, Base: 1}) {
			t.Errorf("%s: %v, %v, %v", x.what, x.w.Mounted(), x.w.Off(), x.w.View())
		}
		limit := 3*(blocks-9) - 2
		if x.w.Limit() != limit || x.w.Steps() != 2*limit+8 {
			t.Errorf("%s: Limit %d, Steps %d", x.what, x.w.Limit(), x.w.Steps())
		}
		for chip := range 2 {
			c := x.w.Chip(chip)
			if c.Blocks() != blocks || !c.Live() || c.Power != x.w.Power || c.Count() != x.w.Count(chip) || x.w.Count(chip) == 0 {
				t.Errorf("%s: the chip %d: %d blocks, %v, %d acts", x.what, chip, c.Blocks(), c.Live(), c.Count())
			}
			for block := range blocks {
				if c.Bad(block) {
					t.Errorf("%s: the block %d of the chip %d is bad", x.what, block, chip)
				}
			}
		}
		if got := plain.Read(x.asks); !maps.Equal(got, plain.Empty()) {
			t.Errorf("%s: %v", x.what, got)
		}
		x.mounts()
		x.grows()
		x.without(0)
		x.without(1)
	}
}

// P24.1: the power lasts.
func TestNewLasts(t *testing.T) {
	x := begun(t, "it lasts", 16)
	for i := range 500 {
		x.makes("/f", plain.Text(300, i))
		x.syncs()
		x.oks(op(api.OpUnlink, "/f"))
	}
}

// P24.3: what is told of no chip, and of what isn't mounted.
func TestTold(t *testing.T) {
	x := begun(t, "told", 18)
	for _, chip := range append([]int{2, -1, 3}, odd...) {
		if n := x.w.Count(chip); chip != 0 && chip != 1 && n != 0 {
			t.Errorf("Count(%d): %d", chip, n)
		}
	}
	x.grows()
	for chip := range 2 {
		n := x.w.Count(chip)
		x.ok(api.EvOut, chip, 0, 0)
		if x.w.Count(chip) != n || n == 0 {
			t.Errorf("Count(%d) of a chip that is out: %d, not %d", chip, x.w.Count(chip), n)
		}
	}
	if x.w.Limit() != 0 || x.w.Steps() != 8 || !x.w.Mounted() {
		t.Errorf("without a chip: %d, %d", x.w.Limit(), x.w.Steps())
	}
	view := x.w.View()
	if e := x.code(api.EvMount, 0, 0, 0); e != api.ErrNoReplica || x.w.Limit() != 0 || x.w.Steps() != 0 || x.w.Mounted() || x.w.Off() || x.w.View() != view {
		t.Errorf("nothing is mounted: %v, %d, %d", e, x.w.Limit(), x.w.Steps())
	}
	x.ok(api.EvIn, 0, 0, 0)
	if x.w.Mounted() || x.w.Limit() != 0 {
		t.Error("it is mounted without EvMount")
	}
	x.mounts()
	if x.w.Limit() != 25 || x.w.Steps() != 58 || x.w.View() != (api.View{Number: 2, Members: 1, Base: 3}) {
		t.Errorf("%d, %d, %v", x.w.Limit(), x.w.Steps(), x.w.View())
	}
}

// P24.3: without power nothing is mounted, and the view is the tie's all the same.
func TestToldOff(t *testing.T) {
	x := begun(t, "off", 16)
	x.grows()
	x.oks(op(api.OpMkdir, "/more"))
	view, n := x.w.View(), x.w.Count(0)
	x.ok(api.EvCut, 0, 0, 0)
	if x.w.Off() || !x.w.Mounted() {
		t.Error("it is off ahead of the act")
	}
	if a := x.asks(op(api.OpSync)); a.Code != api.ErrDown || !x.w.Off() || x.w.Mounted() {
		t.Errorf("%v, %v", a, x.w.Off())
	}
	if x.w.View() != view || x.w.Count(0) != n+1 || x.w.Limit() != 0 || x.w.Steps() != 0 {
		t.Errorf("%v, %d, %d", x.w.View(), x.w.Count(0), x.w.Limit())
	}
	x.mounts()
	if x.w.Off() {
		t.Error("there is no power behind EvMount")
	}
	x.walks()
}

// The document's first two examples, and chapter 24's.
func TestExamples(t *testing.T) {
	for _, sync := range []bool{true, false} {
		x := begun(t, fmt.Sprint("synced: ", sync), 16)
		one, two := x.w.Count(0), x.w.Count(1)
		x.oks(op(api.OpMkdir, "/a"))
		if x.acts() != one+two {
			t.Error("OpMkdir does acts")
		}
		if sync {
			x.syncs()
			if x.w.Count(0) < one+3 || x.w.Count(1) < two+3 {
				t.Errorf("%d and %d acts", x.w.Count(0)-one, x.w.Count(1)-two)
			}
		}
		x.ok(api.EvOut, 0, 0, 0)
		x.mounts()
		if got := plain.Read(x.asks); len(got) != map[bool]int{true: 2, false: 1}[sync] {
			t.Errorf("%s: %v", x.what, got)
		}
	}
	x := begun(t, "chapter 24", 16)
	x.oks(op(api.OpMkdir, "/a"), op(api.OpSync))
	x.ok(api.EvDie, 0, 0, 0)
	x.oks(op(api.OpMkdir, "/b"), op(api.OpSync))
	x.mounts()
	if a := x.asks(op(api.OpList, "/")); !slices.Equal(a.Names, []string{"a", "b"}) || x.w.View().Number != 2 || x.w.View().Members != 2 {
		t.Errorf("%v, %v", a, x.w.View())
	}
}

// The document's other examples, with the chips one behind the other.
func TestExamplesOfChips(t *testing.T) {
	x := begun(t, "the document's examples", 16)
	x.grows()
	x.ok(api.EvDie, 1, 0, 0)
	x.oks(op(api.OpMkdir, "/b"), op(api.OpSync))
	if x.w.View() != (api.View{Number: 2, Members: 1, Base: 3}) {
		t.Errorf("4: %v", x.w.View())
	}
	x = begun(t, "the document's examples", 16)
	x.grows()
	x.ok(api.EvOut, 1, 0, 0)
	x.oks(op(api.OpMkdir, "/b"), op(api.OpSync))
	x.ok(api.EvIn, 1, 0, 0)
	x.ok(api.EvOut, 0, 0, 0)
	if e := x.code(api.EvMount, 0, 0, 0); e != api.ErrStale {
		t.Errorf("5: %v", e)
	}
	x.ok(api.EvIn, 0, 0, 0)
	x.mounts()
	x.comesBack()
	x.ok(api.EvNew, 1, 0, 0)
	x.comesBack()
	x.ok(api.EvDie, 0, 0, 0)
	x.walks()
	x.mounts()
	x.walks()
}

// P24.9: what is handed in isn't changed, its spare room neither, and isn't kept; what is answered is new memory.
func TestMemory(t *testing.T) {
	x := begun(t, "memory", 16)
	x.oks(op(api.OpCreate, "/f"), op(api.OpMkdir, "/g"), op(api.OpOpen, "/f"))
	data := []byte("bytes, and room")
	e := api.Event{Kind: api.EvOp, Op: api.Op{Kind: api.OpWrite, H: 1, Off: 120, Data: data[:5]}}
	x.does(e)
	if string(data) != "bytes, and room" || e.Op.H != 1 || e.Op.Off != 120 {
		t.Errorf("changed: %q", data)
	}
	copy(data, "---------------")
	read := api.Op{Kind: api.OpRead, H: 1, Off: 120, N: 9}
	for range 2 {
		one, two := x.asks(read), x.asks(read)
		if string(one.Data) != "bytes" {
			t.Errorf("kept: %q", one.Data)
		}
		copy(one.Data[:cap(one.Data)], bytes.Repeat([]byte{'-'}, cap(one.Data)))
		if string(two.Data) != "bytes" {
			t.Error("two answers share memory")
		}
		list, again := x.asks(op(api.OpList, "/")), x.asks(op(api.OpList, "/"))
		for i := range list.Names[:cap(list.Names)] {
			list.Names[:cap(list.Names)][i] = "-"
		}
		if !slices.Equal(again.Names, []string{"f", "g"}) {
			t.Error("two lists share memory")
		}
		x.walks()
		x.syncs()
	}
	x.mounts()
	x.walks()
}

// Rule 6: worlds are by themselves.
func TestOnesOwn(t *testing.T) {
	one, two := begun(t, "one", 16), begun(t, "two", 20)
	one.grows()
	two.oks(op(api.OpMkdir, "/two"))
	one.ok(api.EvDie, 1, 0, 0)
	one.oks(op(api.OpMkdir, "/one"))
	one.ok(api.EvCut, 0, 2, 0)
	one.asks(op(api.OpSync))
	if !one.w.Off() || two.w.Off() || !two.w.Mounted() || two.w.View().Number != 1 || two.w.Limit() != 31 {
		t.Errorf("%v, %v, %v", two.w.Off(), two.w.Mounted(), two.w.View())
	}
	two.syncs()
	two.walks()
	two.without(0)
	one.mounts()
	one.walks()
}
