package chiplog

import (
	"bytes"
	"cmp"
	"math"
	"slices"

	"keelson/api"
	"keelson/frame"
	"keelson/pack"
)

// numSize is how many bytes a wear, or a segment's number, has.
const numSize = 8

// block is what is known of a block of the disk.
type block struct {
	wear    uint64
	cleared bool   // since the log was opened; nothing was written behind its wear record then
	segment bool   // else it is free
	number  uint64 // of a segment
	next    int    // the page of a segment that comes next (8: none)
}

// holds tells whether a log's records may be of a kind.
func holds(kind byte) bool {
	return kind != api.KindTable && kind != api.KindWear && kind != api.KindHead
}

// isSegment tells whether there is such a segment.
func (l *Log) isSegment(at int) bool {
	return at >= 0 && at < len(l.blocks) && l.blocks[at].segment
}

// inOrder goes through the segments in the log's order.
func (l *Log) inOrder(yield func(at int) bool) {
	var list []int
	for at, b := range l.blocks {
		if b.segment {
			list = append(list, at)
		}
	}
	slices.SortStableFunc(list, func(one, two int) int {
		return cmp.Compare(l.blocks[one].number, l.blocks[two].number)
	})
	for _, at := range list {
		if !yield(at) {
			return
		}
	}
}

// last gives the last segment, or false if there is none.
func (l *Log) last() (int, bool) {
	last, ok := 0, false
	for at := range l.inOrder {
		last, ok = at, true
	}
	return last, ok
}

// least gives the free block that is begun next, or false if none is free.
func (l *Log) least() (int, bool) {
	least, ok := 0, false
	for at, b := range l.blocks {
		if !b.segment && (!ok || b.wear < l.blocks[least].wear) {
			least, ok = at, true
		}
	}
	return least, ok
}

// look gives what a block of the disk tells, and whether it tells its wear.
func (l *Log) look(at int) (block, bool, api.Errno) {
	wear, known, e := l.tells(at, wearPage, api.KindWear)
	if e != api.OK {
		return block{}, false, e
	}
	number, segment, e := l.tells(at, headPage, api.KindHead)
	if e != api.OK {
		return block{}, false, e
	}
	next, e := l.behind(at)
	if e != api.OK {
		return block{}, false, e
	}
	return block{wear: wear, segment: segment, number: number, next: next}, known, api.OK
}

// tells gives the number in a page's record of a kind, or false if there is no such record that can be read.
func (l *Log) tells(at, page int, kind byte) (uint64, bool, api.Errno) {
	p, e := l.Read(at, page)
	if e != api.OK {
		return 0, false, e
	}
	is, body, _, e := frame.Read(p)
	if e != api.OK || is != kind || len(body) != numSize {
		return 0, false, api.OK
	}
	return pack.NewReader(body).Num(numSize), true, api.OK
}

// behind gives the page for a record that is behind all those that hold anything.
func (l *Log) behind(at int) (int, api.Errno) {
	for page := api.BlockPages; page > firstPage; page-- {
		p, e := l.Read(at, page-1)
		if e != api.OK {
			return 0, e
		}
		if !frame.Blank(p) {
			return page, api.OK
		}
	}
	return firstPage, api.OK
}

// records gives the places of a segment's records that can be read.
func (l *Log) records(at int) []api.Place {
	var list []api.Place
	for page := firstPage; page < api.BlockPages; page++ {
		place := api.Place{Block: at, Page: page}
		kind, _, _, e := l.Get(place)
		if e == api.OK && holds(kind) {
			list = append(list, place)
		}
	}
	return list
}

// clear lets a block hold nothing but its wear, and be free.
func (l *Log) clear(at int, wear uint64) api.Errno {
	b, acts := &l.blocks[at], l.Count()
	e := l.Erase(at)
	// However that ended, none of its pages is one for a record any more.
	if l.Count() != acts {
		b.cleared, b.next = false, api.BlockPages
	}
	if e != api.OK {
		return e
	}
	if e := l.note(at, wearPage, api.KindWear, wear); e != api.OK {
		return e
	}
	*b = block{wear: wear, cleared: true}
	return api.OK
}

// begin lets a free block be the last segment.
func (l *Log) begin() api.Errno {
	at, ok := l.least()
	// No segment would be behind one that has the greatest number that there is.
	if !ok || l.number == math.MaxUint64 {
		return api.ErrNoSpace
	}
	clean, e := l.isClean(at)
	if e != api.OK {
		return e
	}
	b := &l.blocks[at]
	if !clean {
		if e := l.clear(at, b.wear); e != api.OK {
			return e
		}
	}
	// If the power ends in this the head may stand there: then no other segment may have its number, and the block must be cleared anew.
	l.number++
	b.cleared = false
	if e := l.note(at, headPage, api.KindHead, l.number); e != api.OK {
		return e
	}
	b.segment, b.number, b.next = true, l.number, firstPage
	return api.OK
}

// isClean tells whether a block was cleared, and all its pages behind its wear are blank, bit by bit.
func (l *Log) isClean(at int) (bool, api.Errno) {
	if !l.blocks[at].cleared {
		return false, api.OK
	}
	blank := api.Page(bytes.Repeat([]byte{255}, api.PageSize))
	for page := headPage; page < api.BlockPages; page++ {
		p, e := l.Read(at, page)
		if e != api.OK || p != blank {
			return false, e
		}
	}
	return true, api.OK
}

// note writes the record of a kind that tells a number.
func (l *Log) note(at, page int, kind byte, n uint64) api.Errno {
	// It is never too long for a record.
	p, _ := frame.Write(kind, pack.Num(numSize, n))
	return l.Program(at, page, p)
}

// put writes a page into the last segment, and gives where, or false if no page of it is left.
func (l *Log) put(p api.Page) (api.Place, bool, api.Errno) {
	at, ok := l.last()
	if !ok {
		return api.Place{}, false, api.OK
	}
	for page := l.blocks[at].next; page < api.BlockPages; page++ {
		stands, e := l.try(at, page, p)
		if e != api.OK {
			return api.Place{}, false, e
		}
		if stands {
			return api.Place{Block: at, Page: page}, true, api.OK
		}
	}
	return api.Place{}, false, api.OK
}

// try writes a segment's next page, and tells whether it stands there bit by bit.
func (l *Log) try(at, page int, p api.Page) (bool, api.Errno) {
	acts := l.Count()
	e := l.Program(at, page, p)
	// Behind an act the page has had its turn, however that ended.
	if e == api.ErrOrder || l.Count() != acts {
		l.blocks[at].next = page + 1
	}
	if e == api.ErrOrder {
		return false, api.OK
	}
	if e != api.OK {
		return false, e
	}
	// A bit of a page that is to be written may have turned, and stays 0 then.
	got, e := l.Read(at, page)
	return got == p, e
}
