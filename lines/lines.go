// Package lines puts lines into a branch, one by one: those of a tree, and those of an upper branch, which has Whites and Opaque directories too.
package lines

import (
	"strings"

	"veneer/api"
	"veneer/branch"
	"veneer/path"
)

// opaque is the data that mark a directory of an upper branch Opaque.
const opaque = "o"

// Put makes what a line of a tree tells, below a directory of a branch.
func Put(b *branch.Branch, top int, line api.Line) api.Errno {
	return put(b, top, line, false)
}

// PutOver makes what a line of an upper branch tells, below a directory of it.
func PutOver(b *branch.Branch, top int, line api.Line) api.Errno {
	return put(b, top, line, true)
}

// put makes what a line tells, which may be an upper branch's.
func put(b *branch.Branch, top int, line api.Line, over bool) api.Errno {
	dir, name, e := place(b, top, line.Path)
	if e != api.OK {
		return e
	}
	switch line.Kind {
	case api.File:
		return putFile(b, dir, name, line.Data)
	case api.Dir:
		return putDir(b, dir, name, over && line.Data == opaque)
	case api.Link:
		_, e = b.Make(dir, name, api.Link, line.Data)
		return e
	case api.White:
		if over {
			_, e = b.Make(dir, name, api.White, "")
			return e
		}
	}
	// branch.Make would take a White.
	return api.EINVAL
}

// putFile makes a file with all its bytes.
func putFile(b *branch.Branch, dir int, name, data string) api.Errno {
	ino, e := b.Make(dir, name, api.File, "")
	if e != api.OK {
		return e
	}
	n, e := b.Write(ino, 0, []byte(data))
	switch {
	case e != api.OK:
		return e
	case n < len(data):
		return api.ENOSPC
	}
	return api.OK
}

// putDir makes a directory, which may be marked Opaque.
func putDir(b *branch.Branch, dir int, name string, mark bool) api.Errno {
	ino, e := b.Make(dir, name, api.Dir, "")
	if e != api.OK || !mark {
		return e
	}
	return b.Mark(ino, api.Opaque)
}

// place is the directory in which a path's last name is to be made, and that name.
func place(b *branch.Branch, top int, text string) (int, string, api.Errno) {
	above, last, ok := split(text)
	if !ok {
		return 0, "", api.EINVAL
	}
	dir := top
	for _, name := range above {
		next, e := b.Get(dir, name)
		if e != api.OK {
			return 0, "", e
		}
		dir = next
	}
	if b.Kind(dir) != api.Dir {
		return 0, "", api.ENOTDIR
	}
	return dir, last, api.OK
}

// split is a line's path as names, the last one by itself, and whether it is such a path.
func split(text string) ([]string, string, bool) {
	p, e := path.Parse(text)
	if e != api.OK || !strings.HasPrefix(text, "/") {
		return nil, "", false
	}
	above, last, e := path.Last(p)
	return above.Names, last, e == api.OK
}
