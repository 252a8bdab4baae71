package bbt

import (
	"slices"

	"keelson/api"
	"keelson/nand"
	"keelson/pack"
)

const maxSize = api.MaxBlocks - api.Reserved - api.Spares

// layout tells what each block of a chip is used for.
type layout struct {
	blocks int                 // how many the chip has
	at     [maxSize]int        // the chip's block of each logical one
	lost   [api.MaxBlocks]bool // of each of the chip's blocks
}

// fresh gives a layout in which only those blocks are lost that were bad from the beginning, or false if these are too many.
func fresh(c *nand.Chip) (layout, bool) {
	l := layout{blocks: c.Blocks()}
	for block := range l.blocks {
		l.lost[block] = c.Bad(block)
	}
	if l.lost[0] || l.lost[1] || l.losses() > api.Spares {
		return layout{}, false
	}
	for logical := range l.size() {
		l.at[logical], _ = l.spare()
	}
	return l, true
}

// size tells how many logical blocks there are.
func (l *layout) size() int { return l.blocks - api.Reserved - api.Spares }

// has tells whether there is such a logical block.
func (l *layout) has(logical int) bool { return logical >= 0 && logical < l.size() }

// isSpare tells whether a block is neither used nor lost.
func (l *layout) isSpare(block int) bool {
	return block >= api.Reserved && block < l.blocks && !l.lost[block] && !slices.Contains(l.at[:l.size()], block)
}

// spare gives the least spare.
func (l *layout) spare() (int, bool) {
	for block := range l.blocks {
		if l.isSpare(block) {
			return block, true
		}
	}
	return 0, false
}

// losses tells how many blocks are lost.
func (l *layout) losses() int {
	n := 0
	for block := range l.blocks {
		if l.lost[block] {
			n++
		}
	}
	return n
}

// bytes gives how many blocks the chip has, those of the logical ones, and those that are lost, in a byte each.
func (l *layout) bytes() []byte {
	list := []uint64{uint64(l.blocks)}
	for logical := range l.size() {
		list = append(list, uint64(l.at[logical]))
	}
	for block := range l.blocks {
		if l.lost[block] {
			list = append(list, uint64(block))
		}
	}
	return pack.Nums(1, list...)
}

// parse gives the layout that bytes tell of a chip with so many blocks, or false if they tell none.
func parse(blocks int, r *pack.Reader) (layout, bool) {
	l := layout{blocks: blocks}
	if int(r.Num(1)) != blocks {
		return layout{}, false
	}
	for logical := range l.size() {
		// A block has one use at most: it must have none so far. (Beyond the end it reads as block 0, which is no spare.)
		block := int(r.Num(1))
		if !l.isSpare(block) {
			return layout{}, false
		}
		l.at[logical] = block
	}
	for r.Left() > 0 {
		block := int(r.Num(1))
		if !l.isSpare(block) {
			return layout{}, false
		}
		l.lost[block] = true
	}
	return l, true
}
