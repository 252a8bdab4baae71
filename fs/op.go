package fs

import (
	"keelson/api"
	"keelson/file"
	"keelson/tree"
)

// do does an operation; beside an error what it answers means nothing.
func (f *FS) do(o api.Op) (a api.Answer, e api.Errno) {
	kind := api.Dir
	switch o.Kind {
	case api.OpCreate:
		kind = api.File
		fallthrough
	case api.OpMkdir:
		_, e = tree.Make(f.cache, o.Path, kind)
	case api.OpOpen:
		a.N, e = f.opened(o.Path)
	case api.OpClose:
		e = f.open.Close(o.H)
	case api.OpRead, api.OpWrite, api.OpTruncate:
		return f.use(o)
	case api.OpRename:
		e = tree.Rename(f.cache, o.Path, o.To)
	case api.OpUnlink:
		if e = f.unused(o.Path); e != api.OK {
			break
		}
		kind = api.File
		fallthrough
	case api.OpRmdir:
		e = tree.Remove(f.cache, o.Path, kind)
	case api.OpList:
		a.Names, e = tree.List(f.cache, o.Path)
		a.N = len(a.Names)
	case api.OpStat:
		a.Kind, a.N, e = f.stat(o.Path)
	case api.OpSync:
		e = f.sync()
	default:
		e = api.ErrArg
	}
	return a, e
}

// use does an operation on a file that is open.
func (f *FS) use(o api.Op) (a api.Answer, e api.Errno) {
	number, e := f.open.Get(o.H)
	if e != api.OK {
		return a, e
	}
	switch o.Kind {
	case api.OpRead:
		a.Data, e = file.Read(f.cache, number, o.Off, o.N)
		a.N = len(a.Data)
	case api.OpWrite:
		a.N, e = len(o.Data), file.Write(f.cache, number, o.Off, o.Data)
	case api.OpTruncate:
		e = file.Truncate(f.cache, number, o.N)
	}
	return a, e
}

// opened gives a handle of the file at a path.
func (f *FS) opened(path string) (int, api.Errno) {
	number, e := f.file(path)
	if e != api.OK {
		return 0, e
	}
	return f.open.Open(number)
}

// unused tells what is wrong with taking the file at a path away.
func (f *FS) unused(path string) api.Errno {
	number, e := f.file(path)
	if e == api.OK && f.open.Uses(number) {
		return api.ErrBusy
	}
	return e
}

// file gives the number of the file at a path.
func (f *FS) file(path string) (int, api.Errno) {
	number, n, e := tree.Find(f.cache, path)
	if e == api.OK && n.Kind == api.Dir {
		return 0, api.ErrIsDir
	}
	return number, e
}

// stat gives the kind of what is at a path, and a file's size, or how many entries a directory has.
func (f *FS) stat(path string) (int, int, api.Errno) {
	_, n, e := tree.Find(f.cache, path)
	if n.Kind == api.Dir {
		return n.Kind, len(n.Entries), e
	}
	return n.Kind, n.Size, e
}

// sync lets all that was changed be kept.
func (f *FS) sync() api.Errno {
	changes := f.cache.Changes()
	if len(changes) == 0 {
		return api.OK
	}
	e := f.Commit(changes...)
	if e == api.OK {
		f.cache.Clear()
	}
	return e
}
