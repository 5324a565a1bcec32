// Package draft makes the copy of a file chunk by chunk, out of sight till all of it is copied.
package draft

import (
	"slices"

	"veneer/api"
	"veneer/branch"
	"veneer/merge"
)

// Draft is a file of the upper branch that becomes the copy of another one.
type Draft struct {
	upper *branch.Branch
	dir   int // where it is till it gets its place, and under which name
	name  string
	ino   int
	view  *merge.View
	from  api.Node // the other file
	off   int64    // what comes ahead of it is copied
}

// New makes an empty draft of a file, under a name in a directory of the upper branch.
func New(upper *branch.Branch, dir int, name string, view *merge.View, from api.Node) (*Draft, api.Errno) {
	ino, e := upper.Make(dir, name, api.File, "")
	if e != api.OK {
		return nil, e
	}
	return &Draft{upper: upper, dir: dir, name: name, ino: ino, view: view, from: from}, api.OK
}

// Ino is the draft's inode.
func (d *Draft) Ino() int { return d.ino }

// Step copies the next chunk that has other bytes than zero bytes. If none is left, it sets the size, and tells that the draft is whole.
func (d *Draft) Step() (bool, api.Errno) {
	stat, e := d.view.Stat(d.from)
	if e != api.OK {
		return false, e
	}
	size := int64(stat.Size)
	for d.off < size {
		data, e := d.view.Read(d.from, d.off, api.Chunk)
		if e != api.OK {
			return false, e
		}
		off := d.off
		d.off += api.Chunk
		// What isn't written reads as zero bytes, and takes no room.
		if !zero(data) {
			return false, d.write(off, data)
		}
	}
	if e := d.upper.Cut(d.ino, size); e != api.OK {
		return false, e
	}
	return true, api.OK
}

// zero tells whether there are no bytes but zero bytes.
func zero(data []byte) bool {
	return !slices.ContainsFunc(data, func(b byte) bool { return b != 0 })
}

// write writes all of a chunk.
func (d *Draft) write(off int64, data []byte) api.Errno {
	written, e := d.upper.Write(d.ino, off, data)
	if e == api.OK && written < len(data) {
		return api.ENOSPC
	}
	return e
}

// Move gives the draft its place: a name in a directory of the upper branch.
func (d *Draft) Move(dir int, name string) api.Errno {
	return d.upper.Rename(d.dir, d.name, dir, name)
}

// Drop takes a draft away that has no place yet.
func (d *Draft) Drop() {
	d.upper.Unlink(d.dir, d.name)
}
