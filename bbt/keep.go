package bbt

import (
	"keelson/api"
	"keelson/frame"
	"keelson/nand"
	"keelson/pack"
)

// A table is one record, in the block 0 or in the block 1, with a number.
// A new table, with the next number, is written into the block that doesn't
// have the elder one, and then the elder one is erased. Of two tables the one
// with the lesser number is kept: so nothing but that last erase makes the
// new one the one that is kept, and a page whose writing broke off never
// does, whichever of its bits turn later on. Behind a call that is OK no
// elder table stands on the chip that could be read in place of the last one.

// tries is how often an erase may be tried, so that some may fail.
const tries = api.BlockPages

// kept is a table as it stands on a chip.
type kept struct {
	layout layout
	number uint64
	block  int
	page   api.Page // bit by bit
}

// look gives the table that a chip keeps; ErrNoLog, if it keeps none that can be read.
func look(c *nand.Chip) (kept, api.Errno) {
	found, answer := kept{}, api.ErrNoLog
	for block := range api.Reserved {
		for page := range api.BlockPages {
			p, e := c.Read(block, page)
			if e != api.OK {
				return kept{}, e
			}
			number, l, ok := read(c.Blocks(), p)
			if ok && (answer != api.OK || number < found.number) {
				found, answer = kept{layout: l, number: number, block: block, page: p}, api.OK
			}
		}
	}
	return found, answer
}

// write gives the page of a table.
func write(number uint64, l layout) api.Page {
	// A layout is never too long for a record.
	p, _ := frame.Write(api.KindTable, pack.Num(8, number), l.bytes())
	return p
}

// read gives the table that a page has, of a chip with so many blocks.
func read(blocks int, p api.Page) (uint64, layout, bool) {
	kind, body, _, e := frame.Read(p)
	if e != api.OK || kind != api.KindTable {
		return 0, layout{}, false
	}
	r := pack.NewReader(body)
	number := r.Num(8)
	l, ok := parse(blocks, r)
	return number, l, ok
}

// keep lets the chip keep a layout, in place of the one that it keeps now.
func (t *Table) keep(l layout) api.Errno {
	// What stands on the chip counts, not what was known of it: if the power
	// went in an earlier call, that may have kept its table or not.
	old, e := look(t.chip)
	if e != api.OK && e != api.ErrNoLog {
		return e
	}
	if e := t.place(1-old.block, write(old.number+1, l)); e != api.OK {
		return e
	}
	if e := t.wipe(old.block); e != api.OK {
		return e
	}
	t.layout = l
	return api.OK
}

// place writes a page into a block that holds nothing else.
func (t *Table) place(block int, p api.Page) api.Errno {
	if e := t.wipe(block); e != api.OK {
		return e
	}
	for page := range api.BlockPages {
		if e := t.chip.Program(block, page, p); e != api.ErrFailed {
			return e
		}
	}
	return api.ErrWorn
}

// wipe erases a block.
func (t *Table) wipe(block int) api.Errno {
	for range tries {
		if e := t.chip.Erase(block); e != api.ErrFailed {
			return e
		}
	}
	return api.ErrWorn
}
