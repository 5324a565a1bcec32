// Package rule has what holds of calls whatever tree they are done on: what their arguments may be, and what they do to descriptors alone.
package rule

import (
	"strings"

	"veneer/api"
	"veneer/desc"
)

// Flags tells what is wrong with the flags of an OpOpen.
func Flags(flag int) api.Errno {
	need := api.FlagRead | api.FlagWrite
	if flag&(api.FlagCut|api.FlagAppend) != 0 {
		need = api.FlagWrite
	}
	if flag&need == 0 {
		return api.EINVAL
	}
	return api.OK
}

// Target tells what is wrong with a link's target.
func Target(text string) api.Errno {
	switch {
	case text == "":
		return api.ENOENT
	case len(text) > api.MaxPath:
		return api.ENAMETOOLONG
	case strings.IndexByte(text, 0) >= 0:
		return api.EINVAL
	}
	return api.OK
}

// File is an open descriptor of a file, which was opened with the flag.
func File(t *desc.Table, fd, flag int) (api.Desc, api.Errno) {
	d, e := t.Get(fd)
	if e != api.OK || d.IsDir || d.Flag&flag != flag {
		return api.Desc{}, api.EBADF
	}
	return d, api.OK
}

// Dir is an open descriptor of a directory.
func Dir(t *desc.Table, fd int) (api.Desc, api.Errno) {
	d, e := t.Get(fd)
	if e != api.OK || !d.IsDir {
		return api.Desc{}, api.EBADF
	}
	return d, api.OK
}

// Read reads where a descriptor stands, for an OpRead, or at a place, for an OpPread. Reading a descriptor's file is the tree's.
func Read(t *desc.Table, c api.Call, read func(d api.Desc, off int64, n int) ([]byte, api.Errno)) api.Result {
	d, e := File(t, c.Fd, api.FlagRead)
	if e != api.OK {
		return api.Result{E: e}
	}
	off := d.Off
	if c.Op == api.OpPread {
		off = c.Off
	}
	if c.N < 0 || off < 0 {
		return api.Result{E: api.EINVAL}
	}
	data, e := read(d, off, int(min(c.N, api.MaxFile)))
	n := int64(len(data))
	if e == api.OK && c.Op == api.OpRead {
		d.Off += n
		t.Set(c.Fd, d)
	}
	return api.Result{E: e, N: n, S: string(data)}
}

// Write writes where a descriptor stands, or at the end of its file, which has the size, for an OpWrite, or at a place, for an OpPwrite. Writing a descriptor's file is the tree's.
func Write(t *desc.Table, c api.Call, size int64, write func(d api.Desc, off int64, data []byte) (int, api.Errno)) api.Result {
	d, e := File(t, c.Fd, api.FlagWrite)
	if e != api.OK {
		return api.Result{E: e}
	}
	off := d.Off
	switch {
	case c.Op == api.OpPwrite:
		off = c.Off
	case d.Flag&api.FlagAppend != 0:
		off = size
	}
	n, e := write(d, off, []byte(c.A))
	if e == api.OK && c.Op == api.OpWrite {
		d.Off = off + int64(n)
		t.Set(c.Fd, d)
	}
	return api.Result{E: e, N: int64(n)}
}

// Seek moves where a descriptor stands, whose file has the size.
func Seek(t *desc.Table, c api.Call, size int64) api.Result {
	d, e := File(t, c.Fd, 0)
	if e != api.OK {
		return api.Result{E: e}
	}
	var from int64
	switch c.Flag {
	case 0:
	case 1:
		from = d.Off
	case 2:
		from = size
	default:
		return api.Result{E: api.EINVAL}
	}
	// Not their sum is checked: it may be too great for its type.
	if c.Off < -from || c.Off > api.MaxOff-from {
		return api.Result{E: api.EINVAL}
	}
	d.Off = from + c.Off
	t.Set(c.Fd, d)
	return api.Result{N: d.Off}
}

// Readdir tells the next name of a directory's descriptor.
func Readdir(t *desc.Table, fd int) api.Result {
	d, e := Dir(t, fd)
	if e != api.OK {
		return api.Result{E: e}
	}
	if d.At == len(d.Names) {
		return api.Result{}
	}
	name := d.Names[d.At]
	d.At++
	t.Set(fd, d)
	return api.Result{N: 1, S: name}
}

// Rewind lets a directory's descriptor tell the names again that its directory has now. Those of a descriptor's directory are the tree's.
func Rewind(t *desc.Table, fd int, names func(d api.Desc) ([]string, api.Errno)) api.Result {
	d, e := Dir(t, fd)
	if e != api.OK {
		return api.Result{E: e}
	}
	d.Names, e = names(d)
	if e != api.OK {
		return api.Result{E: e}
	}
	d.At = 0
	t.Set(fd, d)
	return api.Result{}
}
