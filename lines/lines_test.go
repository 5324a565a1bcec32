package lines

import (
	"strings"
	"testing"

	"veneer/api"
	"veneer/branch"
)

// made is a branch with a directory in its root, below which lines are put.
func made(t *testing.T, room int) (*branch.Branch, int) {
	t.Helper()
	b := branch.New(room)
	top, e := b.Make(1, "top", api.Dir, "")
	if e != api.OK {
		t.Fatalf("error %d", e)
	}
	return b, top
}

// TestPut: what lines make, and where.
func TestPut(t *testing.T) {
	b, top := made(t, 2)
	for _, l := range []api.Line{{Path: "/d", Kind: api.Dir, Data: "o"}, {Path: "/d/./f", Kind: api.File, Data: strings.Repeat("x", 20)}, {Path: "//l/", Kind: api.Link, Data: "d/f"}} {
		if e := Put(b, top, l); e != api.OK {
			t.Errorf("%v: error %d", l, e)
		}
	}
	d, _ := b.Get(top, "d")
	f, _ := b.Get(d, "f")
	l, _ := b.Get(top, "l")
	data, _ := b.Read(f, 0, 99)
	to, _ := b.Target(l)
	if b.Inodes() != 5 || b.Kind(d) != api.Dir || b.Marks(d) != 0 || string(data) != strings.Repeat("x", 20) || to != "d/f" {
		t.Errorf("%d inodes; the directory has marks %d; the file has %q; the link leads to %q", b.Inodes(), b.Marks(d), data, to)
	}
}

// TestPutOver: Whites, and directories that are marked or not.
func TestPutOver(t *testing.T) {
	b, top := made(t, 2)
	for _, x := range []struct {
		line  api.Line
		marks int
	}{
		{api.Line{Path: "/d", Kind: api.Dir, Data: "o"}, api.Opaque}, {api.Line{Path: "/d/e", Kind: api.Dir}, 0}, {api.Line{Path: "/d/w", Kind: api.White}, 0},
		{api.Line{Path: "/f", Kind: api.File, Data: "o"}, 0}, {api.Line{Path: "/l", Kind: api.Link, Data: "o"}, 0},
	} {
		if e := PutOver(b, top, x.line); e != api.OK {
			t.Errorf("%v: error %d", x.line, e)
		}
		dir, name, e := place(b, top, x.line.Path)
		ino, _ := b.Get(dir, name)
		if e != api.OK || b.Kind(ino) != x.line.Kind || b.Marks(ino) != x.marks {
			t.Errorf("%v: kind %d, marks %d", x.line, b.Kind(ino), b.Marks(ino))
		}
	}
}

// TestErrors: wrong lines, and the first of several errors.
func TestErrors(t *testing.T) {
	for _, x := range []struct {
		line      api.Line
		put, over api.Errno
	}{
		{api.Line{Path: "/w", Kind: api.White}, api.EINVAL, api.OK},
		{api.Line{Path: "/no/w", Kind: api.White}, api.ENOENT, api.ENOENT},
		{api.Line{Path: "/d", Kind: api.White}, api.EINVAL, api.EEXIST},
		{api.Line{Path: "", Kind: api.Dir}, api.EINVAL, api.EINVAL}, {api.Line{Path: "/", Kind: api.Dir}, api.EINVAL, api.EINVAL}, {api.Line{Path: "x", Kind: api.Dir}, api.EINVAL, api.EINVAL}, {api.Line{Path: "/..", Kind: api.Dir}, api.EINVAL, api.EINVAL},
		{api.Line{Path: "/../x", Kind: api.Dir}, api.ENOENT, api.ENOENT}, {api.Line{Path: "/d/../x", Kind: api.Dir}, api.ENOENT, api.ENOENT},
		{api.Line{Path: "/f/x", Kind: api.Dir}, api.ENOTDIR, api.ENOTDIR}, {api.Line{Path: "/f/x/y", Kind: 9}, api.ENOTDIR, api.ENOTDIR},
		{api.Line{Path: "/x"}, api.EINVAL, api.EINVAL}, {api.Line{Path: "/d", Kind: 5}, api.EINVAL, api.EINVAL}, {api.Line{Path: "/no/x", Kind: -1}, api.ENOENT, api.ENOENT},
		{api.Line{Path: "/d", Kind: api.Dir}, api.EEXIST, api.EEXIST}, {api.Line{Path: "/d", Kind: api.File, Data: "x"}, api.EEXIST, api.EEXIST}, {api.Line{Path: "/x", Kind: api.Link}, api.EINVAL, api.EINVAL},
		{api.Line{Path: "/x", Kind: api.File, Data: strings.Repeat("x", 17)}, api.ENOSPC, api.ENOSPC}, {api.Line{Path: "/x", Kind: api.File, Data: strings.Repeat("x", 16)}, api.OK, api.OK},
	} {
		for over, want := range map[bool]api.Errno{false: x.put, true: x.over} {
			b, top := made(t, 1)
			b.Make(top, "d", api.Dir, "")
			b.Make(top, "f", api.File, "")
			put := Put
			if over {
				put = PutOver
			}
			if e := put(b, top, x.line); e != want {
				t.Errorf("%v, over %t: error %d; want %d", x.line, over, e, want)
			}
		}
	}
}
