package fs_test

import (
	"strings"
	"testing"

	"keelson/api"
	"keelson/bbt"
	"keelson/fs"
	"keelson/mirror"
	"keelson/nand"
	"keelson/node"
	"keelson/plain"
	"keelson/view"
)

// noSpares are blocks by which a chip has no spare.
var noSpares = []int{4, 6, 9, 13}

// keeps are amounts of an act that may be kept: pages of an erase, bytes of a program.
var keeps = []int{-1, 0, 1, 5, 8, 130, 256, 257, 258}

// op gives an operation on paths.
func op(kind int, paths ...string) api.Op {
	paths = append(paths, "", "")
	return api.Op{Kind: kind, Path: paths[0], To: paths[1]}
}

// write gives the operation that writes into a file that is open.
func write(h, off int, data []byte) api.Op {
	return api.Op{Kind: api.OpWrite, H: h, Off: off, Data: data}
}

// scene is two chips with one power, a tie, the files over them, and what these should be.
type scene struct {
	t     *testing.T
	what  string
	p     *nand.Power
	tie   *view.Tie
	chips [2]*nand.Chip
	m     *mirror.Mirror
	f     *fs.FS
	plain *plain.Tree
}

// bare gives two blank chips of so many blocks with a mirror over them, without files.
func bare(t *testing.T, what string, blocks int, bad ...[]int) *scene {
	t.Helper()
	x := &scene{t: t, what: what, p: nand.NewPower(), tie: view.NewTie()}
	bad = append(bad, nil, nil)
	for chip := range x.chips {
		x.chips[chip] = x.blank(blocks, bad[chip]...)
	}
	m, e := mirror.Make(x.tie, x.chips[0], x.chips[1])
	x.want("Make", e, api.OK)
	x.m = m
	return x
}

// made gives two chips of so many blocks with empty files over them.
func made(t *testing.T, what string, blocks int, bad ...[]int) *scene {
	t.Helper()
	x := bare(t, what, blocks, bad...)
	f, e := fs.Format(x.m)
	x.want("Format", e, api.OK)
	x.holding(f, plain.Empty())
	return x
}

// holding lets files be the scene's, that should hold a tree.
func (x *scene) holding(f *fs.FS, k plain.Kept) {
	x.t.Helper()
	if f == nil {
		x.t.Fatalf("%s: no files are given", x.what)
	}
	x.f, x.plain = f, plain.New(k, f.Limit)
}

// blank gives a blank chip with the scene's power.
func (x *scene) blank(blocks int, bad ...int) *nand.Chip {
	x.t.Helper()
	c, e := nand.New(x.p, blocks, bad...)
	x.want("nand.New", e, api.OK)
	return c
}

// want tells of an error that isn't the one wanted.
func (x *scene) want(what string, got, e api.Errno) {
	x.t.Helper()
	if got != e {
		x.t.Fatalf("%s: %s: %v, not %v", x.what, what, got, e)
	}
}

// opens Opens the mirror, and Mounts it; what it should hold is the tree behind the last OpSync.
func (x *scene) opens(k plain.Kept) {
	x.t.Helper()
	x.reopens()
	f, e := fs.Mount(x.m)
	x.want("Mount", e, api.OK)
	x.holding(f, k)
	x.walks()
}

// reopens Opens the mirror.
func (x *scene) reopens() {
	x.t.Helper()
	m, e := mirror.Open(x.tie, x.chips[0], x.chips[1])
	x.want("Open", e, api.OK)
	x.m = m
}

// off lets the power end, with no act of the two chips.
func (x *scene) off() {
	c := x.blank(16)
	x.p.Cut(0, 0)
	c.Erase(0)
}

// acts gives how many acts there were.
func (x *scene) acts() int { return x.chips[0].Count() + x.chips[1].Count() }

// does does an operation, and tells of an answer that isn't that of the tree in memory; the answer.
func (x *scene) does(o api.Op) api.Answer {
	x.t.Helper()
	a, want := x.f.Do(o), x.plain.Do(o)
	if !plain.Same(a, want) {
		x.t.Fatalf("%s: %v: %v, not %v", x.what, o, a, want)
	}
	return a
}

// codes does an operation, whose answer must have that code, too.
func (x *scene) codes(e api.Errno, o api.Op) api.Answer {
	x.t.Helper()
	a := x.does(o)
	if a.Code != e {
		x.t.Fatalf("%s: %v: %v, not %v", x.what, o, a.Code, e)
	}
	return a
}

// oks does operations, all of which must be OK.
func (x *scene) oks(list ...api.Op) {
	x.t.Helper()
	for _, o := range list {
		x.codes(api.OK, o)
	}
}

// syncs does an OpSync, which must be OK, and gives what is kept then.
func (x *scene) syncs() plain.Kept {
	x.t.Helper()
	x.oks(op(api.OpSync))
	return x.plain.Kept()
}

// walks looks at all that is there, by operations.
func (x *scene) walks() {
	x.t.Helper()
	x.plain.Walk(x.does)
}

// files makes a file of these bytes at a path, and leaves its handle open.
func (x *scene) files(path string, data []byte) int {
	x.t.Helper()
	x.oks(op(api.OpCreate, path))
	h := x.codes(api.OK, op(api.OpOpen, path)).N
	x.oks(write(h, 0, data))
	return h
}

// grows makes a few files and directories, no file of which is left open.
func (x *scene) grows() {
	x.t.Helper()
	x.oks(op(api.OpMkdir, "/d"), op(api.OpMkdir, "/d/e"), op(api.OpMkdir, "/z"))
	for i, path := range []string{"/f", "/d/g", "/d/e/h"} {
		h := x.files(path, plain.Text(100+150*i, i))
		x.oks(api.Op{Kind: api.OpClose, H: h})
	}
}

// spoil turns two bits of each record of a node, of any epoch, on a chip.
func (x *scene) spoil(chip, key int) {
	x.t.Helper()
	table, e := bbt.Open(x.chips[chip])
	x.want("bbt.Open", e, api.OK)
	s, ok := x.m.Store(chip)
	if !ok {
		x.t.Fatalf("%s: the chip %d isn't up", x.what, chip)
	}
	for _, segment := range s.Segments() {
		for _, at := range segment.Records {
			kind, body, _, _ := s.Get(at)
			n, e := node.Read(body)
			if e != api.OK || kind != api.KindNode || n.Key != key {
				continue
			}
			block, _ := table.At(at.Block)
			for _, bit := range []int{20, 77} {
				x.want("Flip", x.chips[chip].Flip(block, at.Page, bit), api.OK)
			}
		}
	}
	if _, _, e := s.Node(key); e != api.ErrCorrupt {
		x.t.Fatalf("%s: the chip %d can still read the node %d: %v", x.what, chip, key, e)
	}
}

// fences lets a chip be fenced out, by an OpSync without it.
func (x *scene) fences(chip int) {
	x.t.Helper()
	x.chips[chip].Put(false)
	x.oks(op(api.OpMkdir, "/fenced"), op(api.OpSync), op(api.OpRmdir, "/fenced"), op(api.OpSync))
	x.chips[chip].Put(true)
	if x.f.Member(chip) || !x.f.Up(chip) {
		x.t.Fatalf("%s: the chip %d isn't fenced out, or isn't up", x.what, chip)
	}
}

// long is a path of six names.
const long = "/1/2/3/4/5/6"

// deep makes directories at a path of so many names.
func (x *scene) deep(names int) {
	x.t.Helper()
	for n := range names {
		x.oks(op(api.OpMkdir, strings.Join(strings.Split(long, "/")[:n+2], "/")))
	}
}
