package nand

import "keelson/api"

// block is a block as it stands.
type block struct {
	pages [api.BlockPages]api.Page
	next  int // the page that comes next
	bad   bool
}

// write lets the first size bytes of a page have data's zeros: writing makes no bit a 1.
func (b *block) write(page int, data api.Page, size int) {
	for i := range size {
		b.pages[page][i] &= data[i]
	}
}

// wipe lets the first pages hold nothing.
func (b *block) wipe(pages int) {
	for i := range pages {
		for j := range b.pages[i] {
			b.pages[i][j] = 255
		}
	}
}
