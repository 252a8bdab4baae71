package file

import (
	"keelson/api"
	"keelson/cache"
	"keelson/inode"
)

// maxSize is how many bytes a file may have.
const maxSize = api.MaxChunks * api.Chunk

// content is the bytes of a file, of which some may stand.
type content [maxSize]byte

// file is a file of a cache.
type file struct {
	cache  *cache.Cache
	number int
	size   int
}

// open gives a file.
func open(c *cache.Cache, number int) (file, api.Errno) {
	n, e := Get(c, number)
	if e != api.OK {
		return file{}, e
	}
	if n.Kind != api.File {
		return file{}, api.ErrIsDir
	}
	return file{c, number, n.Size}, api.OK
}

// load gives the bytes of those chunks that are needed, each where it stands in the file.
func (f file) load(needed func(k int) bool) (content, api.Errno) {
	var all content
	for k := 1; k <= inode.Chunks(f.size); k++ {
		if !needed(k) {
			continue
		}
		body, e := f.chunk(k)
		if e != api.OK {
			return content{}, e
		}
		begin, _ := span(k, f.size)
		copy(all[begin:], body)
	}
	return all, api.OK
}

// chunk gives a chunk of the file.
func (f file) chunk(k int) ([]byte, api.Errno) {
	body, e := f.cache.Get(inode.Key(f.number, k))
	if e == api.ErrNone || e == api.OK && len(body) != length(k, f.size) {
		return nil, api.ErrCorrupt
	}
	return body, e
}

// put lets the file have so many bytes, of which those between two places are others than they were.
func (f file) put(all content, from, to, size int) api.Errno {
	var changes []api.Change
	for k := from/api.Chunk + 1; k <= inode.Chunks(to); k++ {
		begin, end := span(k, size)
		changes = append(changes, api.Change{Key: inode.Key(f.number, k), Body: all[begin:end]})
	}
	changes = append(changes, gone(f.number, inode.Chunks(size)+1, inode.Chunks(f.size))...)
	if size != f.size {
		body, _ := inode.Write(api.Inode{Kind: api.File, Size: size}) // of any size that a file may have
		changes = append(changes, api.Change{Key: inode.Key(f.number, 0), Body: body})
	}
	return f.cache.Put(changes...)
}

// gone gives the changes by which an inode's nodes from one to another one are gone.
func gone(number, first, last int) []api.Change {
	var changes []api.Change
	for k := first; k <= last; k++ {
		changes = append(changes, api.Change{Key: inode.Key(number, k), Gone: true})
	}
	return changes
}

// span gives where a chunk begins, and where it ends, in a file of so many bytes.
func span(k, size int) (int, int) {
	return min((k-1)*api.Chunk, size), min(k*api.Chunk, size)
}

// common tells how many bytes of a chunk, in a file of so many bytes, stand between two places.
func common(k, size, from, to int) int {
	begin, end := span(k, size)
	return max(min(end, to)-max(begin, from), 0)
}

// length tells how many bytes a chunk has in a file of so many bytes.
func length(k, size int) int {
	begin, end := span(k, size)
	return end - begin
}
