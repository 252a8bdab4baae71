package disk

import (
	"keelson/api"
	"keelson/frame"
)

// move lets a spare that holds these pages be a logical block, in place of the chip's block that failed.
func (d *Disk) move(block int, pages ...api.Page) api.Errno {
	// It ends: each spare that fails is lost, so that it is none any more.
	for {
		spare, ok := d.table.Spare()
		if !ok {
			return api.ErrWorn
		}
		// The table is last: until it names the spare the block is the old one, with all that was in it.
		e := d.fill(spare, pages...)
		if e == api.OK {
			return d.kept(d.table.Swap(block, spare))
		}
		if e != api.ErrFailed {
			return e
		}
		if e := d.kept(d.table.Lose(spare)); e != api.OK {
			return e
		}
	}
}

// fill lets a block of the chip hold these pages and nothing else.
func (d *Disk) fill(at int, pages ...api.Page) api.Errno {
	if e := d.Chip.Erase(at); e != api.OK {
		return e
	}
	for i, p := range pages {
		if e := d.Chip.Program(at, i, p); e != api.OK {
			return e
		}
	}
	return api.OK
}

// ahead gives the pages of a block of the chip that are ahead of a page, as they are to stand elsewhere.
func (d *Disk) ahead(at, page int) ([]api.Page, api.Errno) {
	var pages []api.Page
	for i := range page {
		p, e := d.Chip.Read(at, i)
		if e != api.OK {
			return nil, e
		}
		pages = append(pages, mend(p))
	}
	return pages, api.OK
}

// mend gives a record's page as it was written, and any other page as it is.
func mend(p api.Page) api.Page {
	kind, body, _, e := frame.Read(p)
	if e != api.OK {
		return p
	}
	// What was read as a record may be written as one.
	whole, _ := frame.Write(kind, body)
	return whole
}
