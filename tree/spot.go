package tree

import (
	"keelson/api"
	"keelson/cache"
	"keelson/file"
	"keelson/inode"
	"keelson/node"
)

// spot is an inode, and its number.
type spot struct {
	number int
	inode  api.Inode
}

// get gives the spot of a number.
func get(c *cache.Cache, number int) (spot, api.Errno) {
	n, e := file.Get(c, number)
	if e != api.OK {
		return spot{}, e
	}
	return spot{number, n}, api.OK
}

// below gives what stands in a directory by a name.
func below(c *cache.Cache, dir spot, name string) (spot, api.Errno) {
	if dir.inode.Kind != api.Dir {
		return spot{}, api.ErrNotDir
	}
	number, ok := inode.Find(dir.inode, name)
	if !ok {
		return spot{}, api.ErrNone
	}
	return get(c, number)
}

// find gives what stands at the path of names.
func find(c *cache.Cache, names ...string) (spot, api.Errno) {
	at, e := get(c, api.RootNode)
	for _, name := range names {
		if e != api.OK {
			return spot{}, e
		}
		at, e = below(c, at, name)
	}
	return at, e
}

// parent gives the directory in which the last one of names stands, or would stand.
func parent(c *cache.Cache, names ...string) (spot, api.Errno) {
	up, e := find(c, names[:len(names)-1]...)
	if e != api.OK {
		return spot{}, e
	}
	if up.inode.Kind != api.Dir {
		return spot{}, api.ErrNotDir
	}
	return up, api.OK
}

// vacant gives the directory in which the last one of names would stand, and doesn't yet.
func vacant(c *cache.Cache, names ...string) (spot, api.Errno) {
	up, e := parent(c, names...)
	if e != api.OK {
		return spot{}, e
	}
	if _, ok := inode.Find(up.inode, last(names...)); ok {
		return spot{}, api.ErrExists
	}
	return up, api.OK
}

// beneath tells how many levels of names there are beneath an inode, as far as so many ones.
func beneath(c *cache.Cache, n api.Inode, most int) (int, api.Errno) {
	// What is deeper is at no path, and there may be no end of it where a directory stands in itself.
	if most == 0 || len(n.Entries) == 0 {
		return 0, api.OK
	}
	var list []api.Inode
	for _, entry := range n.Entries {
		next, e := file.Get(c, entry.Inode)
		if e != api.OK {
			return 0, e
		}
		list = append(list, next)
	}
	deepest := 0
	for _, next := range list {
		levels, e := beneath(c, next, most-1)
		if e != api.OK {
			return 0, e
		}
		deepest = max(deepest, levels)
	}
	return 1 + deepest, api.OK
}

// move takes a name out of a directory, and lets another one stand in its new home.
func move(c *cache.Cache, up spot, old string, home spot, entry api.Entry) api.Errno {
	up.inode = inode.Without(up.inode, old)
	same := up.number == home.number
	if same {
		home = up
	}
	n, e := inode.With(home.inode, entry)
	if e != api.OK {
		return e
	}
	home.inode = n
	if same {
		return c.Put(written(home)...)
	}
	return c.Put(written(up, home)...)
}

// free gives the least number of which there is no inode.
func free(live api.Live) (int, bool) {
	for number := 1; number <= api.MaxInodes; number++ {
		if !node.Has(live, inode.Key(number, 0)) {
			return number, true
		}
	}
	return 0, false
}

// written gives the changes by which inodes are what they are.
func written(spots ...spot) []api.Change {
	var changes []api.Change
	for _, s := range spots {
		body, _ := inode.Write(s.inode) // all of them are right
		changes = append(changes, api.Change{Key: inode.Key(s.number, 0), Body: body})
	}
	return changes
}

// gone gives the changes by which an inode, and a file's chunks, are gone.
func gone(s spot) []api.Change {
	var changes []api.Change
	for chunk := range inode.Chunks(s.inode.Size) + 1 {
		changes = append(changes, api.Change{Key: inode.Key(s.number, chunk), Gone: true})
	}
	return changes
}

// isKind tells whether an inode may be of a kind.
func isKind(kind int) bool { return kind == api.File || kind == api.Dir }

// last gives the last one of names.
func last(names ...string) string { return names[len(names)-1] }
