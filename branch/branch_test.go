package branch

import (
	"bytes"
	"math"
	"slices"
	"strconv"
	"strings"
	"testing"

	"veneer/api"
)

// The inodes of a sample, in which each kind is, and of what may be held but has no name any more.
const (
	full     = 2 // the directory /full
	sub      = 3 // the directory /full/sub
	file     = 4 // the file /full/sub/file and /again: "some text"
	link     = 5 // the link /link to full/sub
	white    = 6 // the whiteout /white
	empty    = 7 // the directory /empty
	goneDir  = 8 // a directory that was taken away and is held
	goneFile = 9 // a file that was taken away and is held: "x"
	removed  = 10
)

// sample makes one, with room for 6 chunks, of which 2 are used.
func sample(t *testing.T) *both {
	t.Helper()
	x := newBoth(t, 6)
	x.make(1, "full", api.Dir, "")
	x.make(full, "sub", api.Dir, "")
	x.make(sub, "file", api.File, "")
	x.link(1, "again", file)
	x.write(file, 0, []byte("some text"))
	x.make(1, "link", api.Link, "full/sub")
	x.make(1, "white", api.White, "")
	x.make(1, "empty", api.Dir, "")
	x.make(1, "gone", api.Dir, "")
	x.hold(goneDir)
	x.rmdir(1, "gone")
	x.make(1, "gone", api.File, "")
	x.write(goneFile, 0, []byte("x"))
	x.hold(goneFile)
	x.unlink(1, "gone")
	x.make(1, "gone", api.File, "")
	x.unlink(1, "gone")
	if x.b.Inodes() != 9 || x.b.Used() != 2 || x.b.Kind(removed) != 0 {
		t.Fatalf("%d inodes, %d chunks", x.b.Inodes(), x.b.Used())
	}
	return x
}

// absent are numbers that no inode of a sample has.
func absent() []int {
	return []int{0, -1, math.MinInt, removed, 11, 199, 200, 201, 202, 256, 65537, math.MaxInt}
}

// badNames are names that may not be given, with what is wrong with them.
func badNames() map[string]api.Errno {
	long := strings.Repeat("x", 60)
	return map[string]api.Errno{
		"":                         api.ENOENT,
		long + "x":                 api.ENAMETOOLONG,
		strings.Repeat("/", 61):    api.ENAMETOOLONG,
		strings.Repeat(".", 61):    api.ENAMETOOLONG,
		strings.Repeat("x", 70000): api.ENAMETOOLONG,
		"/":                        api.EINVAL,
		"a/":                       api.EINVAL,
		"\x00":                     api.EINVAL,
		"a\x00b":                   api.EINVAL,
		long[1:] + "/":             api.EINVAL,
		".":                        api.EINVAL,
		"..":                       api.EINVAL,
	}
}

// is holds two errors together.
func is(t *testing.T, what string, e, want api.Errno) {
	t.Helper()
	if e != want {
		t.Errorf("%s: %d, want %d", what, e, want)
	}
}

// TestExamples: the chapter's examples.
func TestExamples(t *testing.T) {
	b := New(0)
	made := func(dir int, name string, kind, want int) {
		t.Helper()
		if ino, e := b.Make(dir, name, kind, ""); ino != want || e != api.OK {
			t.Errorf("Make(%d, %q): %d, %d, want %d", dir, name, ino, e, want)
		}
	}
	made(1, "a", api.Dir, 2)
	made(2, "b", api.File, 3)
	is(t, "Rename(2, b, 1, b)", b.Rename(2, "b", 1, "b"), api.OK)
	is(t, "Rmdir(1, a)", b.Rmdir(1, "a"), api.OK)
	made(1, "c", api.Dir, 2)
	made(2, "d", api.Dir, 4)
	is(t, "Rename(1, c, 4, x)", b.Rename(1, "c", 4, "x"), api.EINVAL)
	is(t, "Unlink(1, c)", b.Unlink(1, "c"), api.EISDIR)
}

// TestNew: P5.1, each room at the edge.
func TestNew(t *testing.T) {
	for _, room := range []int{0, 1, 2, 65535, 65536} {
		x := newBoth(t, room)
		x.look("New", []any{room})
		if s, e := x.b.Stat(1); s != (api.Stat{Kind: api.Dir, Link: 1}) || e != api.OK {
			t.Errorf("New(%d): the root is %v, %d", room, s, e)
		}
		if x.b.Used() != 0 || x.b.Inodes() != 1 || x.b.Kind(1) != api.Dir || x.b.Parent(1) != 1 || x.b.Marks(1) != 0 {
			t.Errorf("New(%d): %d chunks, %d inodes", room, x.b.Used(), x.b.Inodes())
		}
	}
	for _, room := range []int{-1, math.MinInt, 65537, 1 << 20, math.MaxInt} {
		if b := New(room); b != nil {
			t.Errorf("New(%d) isn't nil", room)
		}
	}
}

// TestNil: R1, what New returns for a room out of range has no inode.
func TestNil(t *testing.T) {
	b := New(-1)
	if b.Used() != 0 || b.Inodes() != 0 || b.Kind(1) != 0 || b.Parent(1) != 0 || b.Marks(1) != 0 {
		t.Error("there is something in it")
	}
	for _, ino := range []int{-1, 0, 1, 2, 200, 201} {
		none(t, b, ino)
	}
}

// none asks each function of a number that no inode has.
func none(t *testing.T, b *Branch, ino int) {
	t.Helper()
	is(t, "Link in it", b.Link(ino, "n", file), api.ENOENT)
	is(t, "Link to it", b.Link(1, "n", ino), api.ENOENT)
	is(t, "Unlink", b.Unlink(ino, "n"), api.ENOENT)
	is(t, "Rmdir", b.Rmdir(ino, "n"), api.ENOENT)
	is(t, "Rename out of it", b.Rename(ino, "n", 1, "n"), api.ENOENT)
	is(t, "Rename into it", b.Rename(1, "again", ino, "n"), api.ENOENT)
	is(t, "Cut", b.Cut(ino, 0), api.ENOENT)
	is(t, "Hold", b.Hold(ino), api.ENOENT)
	is(t, "Release", b.Release(ino), api.ENOENT)
	is(t, "Mark", b.Mark(ino, 1), api.ENOENT)
	if n, e := b.Make(ino, "n", api.File, ""); n != 0 || e != api.ENOENT {
		t.Errorf("Make(%d): %d, %d", ino, n, e)
	}
	if n, e := b.Get(ino, "n"); n != 0 || e != api.ENOENT {
		t.Errorf("Get(%d): %d, %d", ino, n, e)
	}
	if s, e := b.Stat(ino); s != (api.Stat{}) || e != api.ENOENT {
		t.Errorf("Stat(%d): %v, %d", ino, s, e)
	}
	if s, e := b.Target(ino); s != "" || e != api.ENOENT {
		t.Errorf("Target(%d): %q, %d", ino, s, e)
	}
	if all, e := b.All(ino); all != nil || e != api.ENOENT {
		t.Errorf("All(%d): %v, %d", ino, all, e)
	}
	if n, e := b.Write(ino, 0, []byte("x")); n != 0 || e != api.ENOENT {
		t.Errorf("Write(%d): %d, %d", ino, n, e)
	}
	if data, e := b.Read(ino, 0, 1); data != nil || e != api.ENOENT {
		t.Errorf("Read(%d): %q, %d", ino, data, e)
	}
	if b.Kind(ino) != 0 || b.Parent(ino) != 0 || b.Marks(ino) != 0 {
		t.Errorf("%d has kind %d, parent %d, marks %d", ino, b.Kind(ino), b.Parent(ino), b.Marks(ino))
	}
}

// TestAbsent: P5.1 to P5.6, each function of numbers that no inode has.
func TestAbsent(t *testing.T) {
	x := sample(t)
	for _, ino := range absent() {
		none(t, x.b, ino)
		x.look("a number that is absent", nil)
	}
}

// TestEdgeNumbers: P5.1 to P5.6, the first and the last number.
func TestEdgeNumbers(t *testing.T) {
	x := newBoth(t, 9)
	for n := 2; n <= 199; n++ {
		x.make(1, strconv.Itoa(n), api.White, "")
	}
	if ino, e := x.make(1, "last", api.File, ""); ino != 200 || e != api.OK {
		t.Fatalf("the last one: %d, %d", ino, e)
	}
	if n, e := x.write(200, 0, []byte("abc")); n != 3 || e != api.OK {
		t.Errorf("Write: %d, %d", n, e)
	}
	is(t, "Mark", x.mark(200, 9), api.OK)
	is(t, "Hold", x.hold(200), api.OK)
	is(t, "Link", x.link(1, "more", 200), api.OK)
	if ino, e := x.get(1, "more"); ino != 200 || e != api.OK {
		t.Errorf("Get: %d, %d", ino, e)
	}
	is(t, "Unlink", x.unlink(1, "last"), api.OK)
	is(t, "Unlink", x.unlink(1, "more"), api.OK)
	is(t, "Release", x.release(200), api.OK)
	none(t, x.b, 200)
	if ino, e := x.make(1, "dir", api.Dir, ""); ino != 200 || e != api.OK || x.b.Parent(200) != 1 {
		t.Errorf("a directory: %d, %d", ino, e)
	}
	if ino, e := x.make(200, "n", api.File, ""); ino != 0 || e != api.ENOSPC {
		t.Errorf("one more: %d, %d", ino, e)
	}
}

// TestNotDir: P5.2, the check of a directory, of what is none, and of one that was taken away.
func TestNotDir(t *testing.T) {
	x := sample(t)
	for ino, want := range map[int]api.Errno{file: api.ENOTDIR, link: api.ENOTDIR, white: api.ENOTDIR, goneFile: api.ENOTDIR, goneDir: api.ENOENT} {
		// What else is wrong comes after it.
		for _, name := range []string{"n", "", "..", "a/", strings.Repeat("x", 61)} {
			_, e := x.make(ino, name, 0, "x")
			is(t, "Make", e, want)
			is(t, "Link", x.link(ino, name, 99), want)
			is(t, "Unlink", x.unlink(ino, name), want)
			is(t, "Rmdir", x.rmdir(ino, name), want)
			is(t, "Rename out of it", x.rename(ino, name, 99, "/"), want)
			is(t, "Rename into it", x.rename(1, "full", ino, name), want)
			_, e = x.get(ino, name)
			is(t, "Get", e, want)
		}
	}
	for _, ino := range []int{file, link, white, goneFile} {
		if all, e := x.b.All(ino); all != nil || e != api.ENOTDIR {
			t.Errorf("All(%d): %v, %d", ino, all, e)
		}
	}
	if all, e := x.b.All(goneDir); len(all) != 0 || e != api.OK {
		t.Errorf("All of a directory that was taken away: %v, %d", all, e)
	}
}

// TestNewNames: P5.2, the check of a new name.
func TestNewNames(t *testing.T) {
	x := sample(t)
	for name, want := range badNames() {
		ino, e := x.make(1, name, 0, "x")
		if ino != 0 || e != want {
			t.Errorf("Make(%.70q): %d, %d, want %d", name, ino, e, want)
		}
		is(t, "Link", x.link(1, name, 99), want)
		is(t, "Link", x.link(1, name, file), want)
		is(t, "Rename", x.rename(1, "again", 1, name), want)
		is(t, "Rename into itself", x.rename(1, "full", sub, name), want)
	}
	for i, name := range []string{"a", "...", ".a", "a.", " ", "\x01", "\xff", "\u00e9", strings.Repeat("x", 60), strings.Repeat(".", 60)} {
		_, e := x.make(empty, name, api.White, "")
		is(t, "Make", e, api.OK)
		is(t, "Link", x.link(sub, name, file), api.OK)
		is(t, "Rename", x.rename(empty, name, full, name), api.OK)
		if ino, e := x.get(full, name); ino != removed+i || e != api.OK {
			t.Errorf("Get(%q): %d, %d", name, ino, e)
		}
	}
}

// TestOldNames: P5.3 to P5.5, a name that isn't there, and one that can't be.
func TestOldNames(t *testing.T) {
	x := sample(t)
	names := []string{"n", "ful", "full ", "FULL", "file", "full/sub"}
	for name := range badNames() {
		names = append(names, name)
	}
	for _, name := range names {
		if ino, e := x.get(1, name); ino != 0 || e != api.ENOENT {
			t.Errorf("Get(%.70q): %d, %d", name, ino, e)
		}
		is(t, "Unlink", x.unlink(1, name), api.ENOENT)
		is(t, "Rmdir", x.rmdir(1, name), api.ENOENT)
		is(t, "Rename", x.rename(1, name, 1, "m"), api.ENOENT)
		// This error comes ahead of those of the other directory and name.
		is(t, "Rename", x.rename(1, name, file, "/"), api.ENOENT)
	}
}

// making is a call of Make, and the error it comes to.
type making struct {
	dir    int
	name   string
	kind   int
	target string
	want   api.Errno
}

// refuse makes calls of Make, of which none makes anything.
func (x *both) refuse(all []making) {
	x.t.Helper()
	for _, c := range all {
		if ino, e := x.make(c.dir, c.name, c.kind, c.target); ino != 0 || e != c.want {
			x.t.Errorf("Make(%d, %q, %d, %.70q): %d, %d, want %d", c.dir, c.name, c.kind, c.target, ino, e, c.want)
		}
	}
}

// TestMake: P5.3, the errors in their order.
func TestMake(t *testing.T) {
	x := sample(t)
	long := strings.Repeat("t", 401)
	x.refuse([]making{
		{99, "/", 0, "x", api.ENOENT},
		{file, "/", 0, "x", api.ENOTDIR},
		{goneDir, "/", 0, "x", api.ENOENT},
		{1, "/", 0, "x", api.EINVAL},
		{1, "full", 0, "x", api.EEXIST},
		{1, "again", api.File, "", api.EEXIST},
		{1, "link", api.Link, "", api.EEXIST},
		{1, "white", api.White, "", api.EEXIST},
		{sub, "file", api.Link, long, api.EEXIST},
		{1, "n", 0, "", api.EINVAL},
		{1, "n", 5, "", api.EINVAL},
		{1, "n", -1, "", api.EINVAL},
		{1, "n", math.MinInt, "", api.EINVAL},
		{1, "n", math.MaxInt, "", api.EINVAL},
		{1, "n", 1 << 32, "", api.EINVAL},
		{1, "n", 0, "x", api.EINVAL},
		{1, "n", 5, "x", api.EINVAL},
		{1, "n", api.File, "x", api.EINVAL},
		{1, "n", api.Dir, "x", api.EINVAL},
		{1, "n", api.White, "x", api.EINVAL},
		{1, "n", api.File, long, api.EINVAL},
		{1, "n", api.Link, "", api.EINVAL},
		{1, "n", api.Link, long, api.EINVAL},
		{1, "n", api.Link, strings.Repeat("t", 70000), api.EINVAL},
	})
}

// TestMakeKinds: P5.3, an inode of each kind is new in all of it.
func TestMakeKinds(t *testing.T) {
	x := sample(t)
	for i, c := range []struct {
		kind   int
		target string
		stat   api.Stat
		parent int
	}{
		{api.File, "", api.Stat{Kind: 1, Link: 1}, 0},
		{api.Dir, "", api.Stat{Kind: 2, Link: 1}, full},
		{api.Link, "/", api.Stat{Kind: 3, Size: 1, Link: 1}, 0},
		{api.Link, "\x00//..", api.Stat{Kind: 3, Size: 5, Link: 1}, 0},
		{api.Link, strings.Repeat("t", 399), api.Stat{Kind: 3, Size: 399, Link: 1}, 0},
		{api.Link, strings.Repeat("t", 400), api.Stat{Kind: 3, Size: 400, Link: 1}, 0},
		{api.White, "", api.Stat{Kind: 4, Link: 1}, 0},
	} {
		name := strconv.Itoa(i)
		ino, e := x.make(full, name, c.kind, c.target)
		if ino != removed+i || e != api.OK {
			t.Errorf("Make(%d, %.70q): %d, %d", c.kind, c.target, ino, e)
		}
		if s, e := x.b.Stat(ino); s != c.stat || e != api.OK || x.b.Parent(ino) != c.parent || x.b.Kind(ino) != c.kind {
			t.Errorf("Make(%d, %.70q): %v, %d, parent %d", c.kind, c.target, s, e, x.b.Parent(ino))
		}
		if n, e := x.get(full, name); n != ino || e != api.OK {
			t.Errorf("Get(%q): %d, %d", name, n, e)
		}
		is(t, "Release of what nobody holds", x.release(ino), api.EINVAL)
	}
}

// TestNoNumber: P5.3, there are 200 inodes at most; all other errors come first.
func TestNoNumber(t *testing.T) {
	x := newBoth(t, 0)
	for n := 2; n <= 200; n++ {
		if ino, e := x.make(1, strconv.Itoa(n), []int{api.File, api.Dir, api.White}[n%3], ""); ino != n || e != api.OK {
			t.Fatalf("number %d: %d, %d", n, ino, e)
		}
	}
	x.refuse([]making{
		{1, "n", api.File, "", api.ENOSPC},
		{1, "n", api.Dir, "", api.ENOSPC},
		{4, "n", api.Link, "t", api.ENOSPC},
		{4, "n", api.White, "", api.ENOSPC},
		{1, "n", api.Link, "", api.EINVAL},
		{1, "n", api.File, "t", api.EINVAL},
		{1, "n", 5, "", api.EINVAL},
		{1, "2", api.File, "", api.EEXIST},
		{1, "..", api.File, "", api.EINVAL},
		{3, "n", api.File, "", api.ENOTDIR},
		{201, "n", api.File, "", api.ENOENT},
	})
	// A name more needs no number, and a name less of what is held frees none.
	is(t, "Link", x.link(1, "3 again", 3), api.OK)
	is(t, "Unlink", x.unlink(1, "3"), api.OK)
	is(t, "Hold", x.hold(6), api.OK)
	is(t, "Unlink", x.unlink(1, "6"), api.OK)
	if _, e := x.make(1, "n", api.File, ""); e != api.ENOSPC {
		t.Errorf("while all are there: %d", e)
	}
	is(t, "Release", x.release(6), api.OK)
	if ino, e := x.make(1, "n", api.File, ""); ino != 6 || e != api.OK {
		t.Errorf("when 6 is free: %d, %d", ino, e)
	}
}

// TestLowest: P5.1 to P5.5, a new inode gets the lowest free number, in whatever order they became free, and by whatever call.
func TestLowest(t *testing.T) {
	x := newBoth(t, 4)
	for n := 2; n <= 12; n++ {
		x.make(1, strconv.Itoa(n), api.File+n%2, "")
	}
	x.hold(6)
	is(t, "Unlink", x.unlink(1, "10"), api.OK)
	is(t, "Rmdir", x.rmdir(1, "3"), api.OK)
	is(t, "Unlink", x.unlink(1, "6"), api.OK)
	is(t, "Rename onto 8", x.rename(1, "4", 1, "8"), api.OK)
	is(t, "Rename onto 5", x.rename(1, "7", 1, "5"), api.OK)
	is(t, "Release", x.release(6), api.OK)
	is(t, "Rmdir", x.rmdir(1, "11"), api.OK)
	for _, want := range []int{3, 5, 6, 8, 10, 11, 13, 14} {
		if ino, e := x.make(1, "new"+strconv.Itoa(want), api.File, ""); ino != want || e != api.OK {
			t.Errorf("Make: %d, %d, want %d", ino, e, want)
		}
	}
}

// TestLink: P5.4, the errors in their order, and what may get a name more.
func TestLink(t *testing.T) {
	x := sample(t)
	for _, c := range []struct {
		dir  int
		name string
		ino  int
		want api.Errno
	}{
		{99, "/", 99, api.ENOENT},
		{file, "/", 99, api.ENOTDIR},
		{goneDir, "n", file, api.ENOENT},
		{1, "/", 99, api.EINVAL},
		{1, "..", full, api.EINVAL},
		{1, "again", 99, api.EEXIST},
		{1, "again", file, api.EEXIST},
		{1, "full", goneFile, api.EEXIST},
		{1, "empty", full, api.EEXIST},
		{1, "n", 99, api.ENOENT},
		{1, "n", goneFile, api.ENOENT},
		{1, "n", goneDir, api.ENOENT},
		{1, "n", full, api.EPERM},
		{1, "n", empty, api.EPERM},
		{1, "n", 1, api.EPERM},
		{empty, "n", empty, api.EPERM},
		{empty, "file", file, api.OK},
		{full, "link", link, api.OK},
		{full, "white", white, api.OK},
	} {
		is(t, "Link("+strconv.Itoa(c.dir)+", "+c.name+", "+strconv.Itoa(c.ino)+")", x.link(c.dir, c.name, c.ino), c.want)
	}
	for ino, want := range map[int]int{file: 3, link: 2, white: 2, full: 1, empty: 1, 1: 1, goneFile: 0, goneDir: 0} {
		if s, e := x.b.Stat(ino); s.Link != want || e != api.OK {
			t.Errorf("Stat(%d): %v, %d, want %d links", ino, s, e, want)
		}
	}
}

// TestMaxLink: P5.4, 20 names and no more, of each kind that may have several.
func TestMaxLink(t *testing.T) {
	for ino, has := range map[int]int{file: 2, link: 1, white: 1} {
		x := sample(t)
		for n := has; n < 20; n++ {
			is(t, "Link", x.link([]int{1, full, empty}[n%3], strconv.Itoa(n), ino), api.OK)
		}
		is(t, "one name more", x.link(1, "n", ino), api.EMLINK)
		is(t, "a name that is there", x.link(1, "full", ino), api.EEXIST)
		is(t, "Unlink", x.unlink(1, "18"), api.OK)
		is(t, "Link", x.link(1, "n", ino), api.OK)
		is(t, "Link", x.link(1, "m", ino), api.EMLINK)
		// Its last name but one and its last one go.
		all := x.b.Inodes()
		for _, dir := range []int{1, full, empty, sub} {
			entries, _ := x.b.All(dir)
			for _, entry := range entries {
				if entry.Ino == ino {
					is(t, "Unlink", x.unlink(dir, entry.Name), api.OK)
				}
			}
		}
		none(t, x.b, ino)
		if x.b.Inodes() != all-1 {
			t.Errorf("%d inodes, want %d", x.b.Inodes(), all-1)
		}
	}
}

// TestUnlink: P5.4, of each kind.
func TestUnlink(t *testing.T) {
	x := sample(t)
	is(t, "a full directory", x.unlink(1, "full"), api.EISDIR)
	is(t, "an empty one", x.unlink(1, "empty"), api.EISDIR)
	is(t, "the first name", x.unlink(1, "again"), api.OK)
	if s, _ := x.b.Stat(file); s.Link != 1 || x.b.Used() != 2 {
		t.Errorf("%v, %d chunks", s, x.b.Used())
	}
	is(t, "a name that was taken away", x.unlink(1, "again"), api.ENOENT)
	is(t, "the last name", x.unlink(sub, "file"), api.OK)
	is(t, "a link", x.unlink(1, "link"), api.OK)
	is(t, "a whiteout", x.unlink(1, "white"), api.OK)
	if x.b.Inodes() != 6 || x.b.Used() != 1 {
		t.Errorf("%d inodes, %d chunks", x.b.Inodes(), x.b.Used())
	}
	for _, ino := range []int{file, link, white} {
		none(t, x.b, ino)
	}
}

// TestRmdir: P5.4, of each kind.
func TestRmdir(t *testing.T) {
	x := sample(t)
	is(t, "a file", x.rmdir(1, "again"), api.ENOTDIR)
	is(t, "a link", x.rmdir(1, "link"), api.ENOTDIR)
	is(t, "a whiteout", x.rmdir(1, "white"), api.ENOTDIR)
	is(t, "a directory with a directory", x.rmdir(1, "full"), api.ENOTEMPTY)
	is(t, "a directory with a file", x.rmdir(full, "sub"), api.ENOTEMPTY)
	is(t, "an empty one", x.rmdir(1, "empty"), api.OK)
	is(t, "one that was taken away", x.rmdir(1, "empty"), api.ENOENT)
	none(t, x.b, empty)
	is(t, "Unlink", x.unlink(sub, "file"), api.OK)
	is(t, "one that was emptied", x.rmdir(full, "sub"), api.OK)
	is(t, "and the one above", x.rmdir(1, "full"), api.OK)
	x.make(1, "d", api.Dir, "")
	x.make(full, "w", api.White, "")
	is(t, "a directory with a whiteout", x.rmdir(1, "d"), api.ENOTEMPTY)
}

// TestRename: P5.5, each case on a sample of its own.
func TestRename(t *testing.T) {
	for _, c := range []struct {
		dir  int
		name string
		to   int
		as   string
		want api.Errno
	}{
		// The errors in their order.
		{99, "n", 99, "/", api.ENOENT},
		{file, "n", 99, "/", api.ENOTDIR},
		{goneDir, "n", file, "/", api.ENOENT},
		{1, "n", file, "/", api.ENOENT},
		{1, "full", 99, "/", api.ENOENT},
		{1, "full", file, "/", api.ENOTDIR},
		{1, "full", goneDir, "/", api.ENOENT},
		{1, "full", sub, "/", api.EINVAL},
		{1, "full", sub, strings.Repeat("x", 61), api.ENAMETOOLONG},
		{1, "full", sub, "", api.ENOENT},
		{1, "again", 1, "..", api.EINVAL},
		// A directory into itself, and below itself, whatever is there.
		{1, "full", full, "n", api.EINVAL},
		{1, "full", full, "sub", api.EINVAL},
		{1, "full", sub, "n", api.EINVAL},
		{1, "full", sub, "file", api.EINVAL},
		{1, "empty", empty, "n", api.EINVAL},
		{full, "sub", sub, "n", api.EINVAL},
		{full, "sub", sub, "file", api.EINVAL},
		// Onto itself, and onto another name of the same inode: both stay.
		{1, "full", 1, "full", api.OK},
		{1, "empty", 1, "empty", api.OK},
		{1, "again", 1, "again", api.OK},
		{1, "link", 1, "link", api.OK},
		{1, "again", sub, "file", api.OK},
		{sub, "file", 1, "again", api.OK},
		// Onto what is of another kind.
		{1, "again", 1, "full", api.EISDIR},
		{1, "again", 1, "empty", api.EISDIR},
		{1, "link", full, "sub", api.EISDIR},
		{1, "white", 1, "empty", api.EISDIR},
		{1, "full", 1, "again", api.ENOTDIR},
		{1, "empty", 1, "link", api.ENOTDIR},
		{1, "empty", sub, "file", api.ENOTDIR},
		{full, "sub", 1, "white", api.ENOTDIR},
		// Onto a full and onto an empty directory.
		{1, "empty", 1, "full", api.ENOTEMPTY},
		{1, "empty", full, "sub", api.ENOTEMPTY},
		{full, "sub", 1, "full", api.ENOTEMPTY},
		{1, "full", 1, "empty", api.OK},
		{full, "sub", 1, "empty", api.OK},
		// Onto what is no directory: it loses a link.
		{1, "again", 1, "link", api.OK},
		{1, "again", 1, "white", api.OK},
		{1, "link", 1, "again", api.OK},
		{1, "link", sub, "file", api.OK},
		{1, "white", 1, "link", api.OK},
		// To a name that isn't there: in the same directory, and in another one.
		{1, "full", 1, "n", api.OK},
		{1, "again", 1, "n", api.OK},
		{1, "white", 1, "a", api.OK},
		{1, "full", empty, "n", api.OK},
		{1, "empty", sub, "full", api.OK},
		{full, "sub", full, "n", api.OK},
		{full, "sub", 1, "sub", api.OK},
		{full, "sub", empty, "sub", api.OK},
		{sub, "file", 1, "file", api.OK},
		{1, "link", full, strings.Repeat("x", 60), api.OK},
	} {
		x := sample(t)
		was, _ := x.b.Get(c.dir, c.name)
		what := "Rename(" + strconv.Itoa(c.dir) + ", " + c.name + ", " + strconv.Itoa(c.to) + ", " + c.as + ")"
		is(t, what, x.rename(c.dir, c.name, c.to, c.as), c.want)
		if ino, _ := x.b.Get(c.to, c.as); c.want == api.OK && ino != was {
			t.Errorf("%s: %d, not %d, has the name", what, ino, was)
		}
		sound(t, x.b)
	}
}

// TestRenameReplaces: P5.5, what becomes of what had the name.
func TestRenameReplaces(t *testing.T) {
	x := sample(t)
	is(t, "onto one name of two", x.rename(1, "link", 1, "again"), api.OK)
	if s, e := x.b.Stat(file); s.Link != 1 || e != api.OK || x.b.Used() != 2 {
		t.Errorf("%v, %d, %d chunks", s, e, x.b.Used())
	}
	is(t, "onto the last name", x.rename(1, "again", sub, "file"), api.OK)
	none(t, x.b, file)
	if x.b.Used() != 1 || x.b.Inodes() != 8 {
		t.Errorf("%d chunks, %d inodes", x.b.Used(), x.b.Inodes())
	}
	is(t, "Hold", x.hold(empty), api.OK)
	is(t, "onto a directory that is held", x.rename(1, "full", 1, "empty"), api.OK)
	if s, e := x.b.Stat(empty); s != (api.Stat{Kind: api.Dir}) || e != api.OK {
		t.Errorf("%v, %d", s, e)
	}
	is(t, "into it", x.rename(1, "white", empty, "n"), api.ENOENT)
	is(t, "Release", x.release(empty), api.OK)
	none(t, x.b, empty)
}

// TestRenameParent: P5.5, a directory's parent goes with it, and those below it stay below it.
func TestRenameParent(t *testing.T) {
	x := sample(t)
	is(t, "Rename", x.rename(full, "sub", empty, "s"), api.OK)
	if x.b.Parent(sub) != empty || x.b.Parent(empty) != 1 {
		t.Errorf("parents %d, %d", x.b.Parent(sub), x.b.Parent(empty))
	}
	is(t, "what lay above it, into it", x.rename(1, "full", sub, "f"), api.OK)
	if x.b.Parent(full) != sub || x.b.Parent(sub) != empty {
		t.Errorf("parents %d, %d", x.b.Parent(full), x.b.Parent(sub))
	}
	is(t, "what lies above it now", x.rename(1, "empty", full, "e"), api.EINVAL)
	is(t, "a file's rename", x.rename(sub, "file", full, "file"), api.OK)
	if x.b.Parent(file) != 0 || x.b.Parent(link) != 0 || x.b.Parent(white) != 0 {
		t.Error("what is no directory has a parent")
	}
}

// TestDeep: P5.5 and P5.7, as many directories below one another as there can be.
func TestDeep(t *testing.T) {
	x := newBoth(t, 0)
	for n := 1; n < 200; n++ {
		if ino, e := x.make(n, "d", api.Dir, ""); ino != n+1 || e != api.OK || x.b.Parent(ino) != n {
			t.Fatalf("Make(%d): %d, %d", n, ino, e)
		}
	}
	for n := 1; n < 200; n++ {
		is(t, "into the deepest one", x.rename(n, "d", 200, "x"), api.EINVAL)
	}
	is(t, "the deepest one", x.rename(199, "d", 1, "x"), api.OK)
	is(t, "all of them into it", x.rename(1, "d", 200, "x"), api.OK)
	if x.b.Parent(2) != 200 || x.b.Parent(200) != 1 {
		t.Errorf("parents %d, %d", x.b.Parent(2), x.b.Parent(200))
	}
	sound(t, x.b)
}

// TestTold: P5.6, Stat, Target and All of each kind.
func TestTold(t *testing.T) {
	x := sample(t)
	for ino, want := range map[int]api.Stat{
		1:        {Kind: api.Dir, Size: 5, Link: 1},
		full:     {Kind: api.Dir, Size: 1, Link: 1},
		file:     {Kind: api.File, Size: 9, Link: 2},
		link:     {Kind: api.Link, Size: 8, Link: 1},
		white:    {Kind: api.White, Size: 0, Link: 1},
		empty:    {Kind: api.Dir, Size: 0, Link: 1},
		goneDir:  {Kind: api.Dir, Size: 0, Link: 0},
		goneFile: {Kind: api.File, Size: 1, Link: 0},
	} {
		if s, e := x.b.Stat(ino); s != want || e != api.OK {
			t.Errorf("Stat(%d): %v, %d, want %v", ino, s, e, want)
		}
		if ino == link {
			continue
		}
		if s, e := x.b.Target(ino); s != "" || e != api.EINVAL {
			t.Errorf("Target(%d): %q, %d", ino, s, e)
		}
	}
	if s, e := x.b.Target(link); s != "full/sub" || e != api.OK {
		t.Errorf("Target: %q, %d", s, e)
	}
	want := []api.Entry{{Name: "again", Ino: file}, {Name: "empty", Ino: empty}, {Name: "full", Ino: full}, {Name: "link", Ino: link}, {Name: "white", Ino: white}}
	if all, e := x.b.All(1); !slices.Equal(all, want) || e != api.OK {
		t.Errorf("All: %v, %d, want %v", all, e, want)
	}
}

// TestNoFile: P5.6, writing, reading and cutting what is no file comes to an error, whatever else is wrong.
func TestNoFile(t *testing.T) {
	x := sample(t)
	for ino, want := range map[int]api.Errno{1: api.EISDIR, full: api.EISDIR, goneDir: api.EISDIR, link: api.EINVAL, white: api.EINVAL, 99: api.ENOENT, 0: api.ENOENT} {
		for _, off := range []int64{-1, 0, 65536, 65537, math.MinInt64, math.MaxInt64} {
			for _, data := range []string{"", "x", strings.Repeat("x", 200)} {
				if n, e := x.write(ino, off, []byte(data)); n != 0 || e != want {
					t.Errorf("Write(%d, %d, %d bytes): %d, %d, want %d", ino, off, len(data), n, e, want)
				}
			}
			if data, e := x.read(ino, off, -1); data != nil || e != want {
				t.Errorf("Read(%d, %d): %q, %d, want %d", ino, off, data, e, want)
			}
			is(t, "Cut", x.cut(ino, off), want)
		}
	}
}

// TestFile: P5.6, what the store says of a file (chapter 3).
func TestFile(t *testing.T) {
	x := sample(t)
	for _, c := range []struct {
		off  int64
		data string
		n    int
		want api.Errno
	}{
		{-1, "", 0, api.EINVAL},
		{math.MinInt64, "x", 0, api.EINVAL},
		{65536, "", 0, api.OK},
		{math.MaxInt64, "", 0, api.OK},
		{65536, "x", 0, api.EFBIG},
		{math.MaxInt64, "x", 0, api.EFBIG},
		{65530, "0123456789", 6, api.OK},
		{30, strings.Repeat("y", 50), 34, api.OK},
		{0, "still", 5, api.OK},
		{64, "z", 0, api.ENOSPC},
	} {
		if n, e := x.write(file, c.off, []byte(c.data)); n != c.n || e != c.want {
			t.Errorf("Write(%d, %q): %d, %d, want %d, %d", c.off, c.data, n, e, c.n, c.want)
		}
	}
	if x.b.Used() != 6 {
		t.Errorf("%d chunks", x.b.Used())
	}
	for _, c := range []struct {
		off  int64
		n    int
		data string
		want api.Errno
	}{
		{-1, 1, "", api.EINVAL},
		{0, -1, "", api.EINVAL},
		{0, 0, "", api.OK},
		{0, 9, "stilltext", api.OK},
		{28, 3, "\x00\x00y", api.OK},
		{65533, math.MaxInt, "345", api.OK},
		{65536, 1, "", api.OK},
		{math.MaxInt64, 1, "", api.OK},
	} {
		if data, e := x.read(file, c.off, c.n); string(data) != c.data || e != c.want {
			t.Errorf("Read(%d, %d): %q, %d, want %q, %d", c.off, c.n, data, e, c.data, c.want)
		}
	}
	is(t, "Cut below 0", x.cut(file, -1), api.EINVAL)
	is(t, "Cut above the limit", x.cut(file, 65537), api.EFBIG)
	is(t, "Cut to the limit", x.cut(file, 65536), api.OK)
	is(t, "Cut", x.cut(file, 3), api.OK)
	is(t, "Cut, longer", x.cut(file, 6), api.OK)
	if data, e := x.read(file, 0, 99); string(data) != "sti\x00\x00\x00" || e != api.OK || x.b.Used() != 2 {
		t.Errorf("Read: %q, %d, with %d chunks", data, e, x.b.Used())
	}
}

// TestNoRoom: P5.6 and P5.7, the room is shared by all files, and given back by each.
func TestNoRoom(t *testing.T) {
	none := newBoth(t, 0)
	none.make(1, "a", api.File, "")
	if n, e := none.write(2, 0, []byte("x")); n != 0 || e != api.ENOSPC {
		t.Errorf("in no room: %d, %d", n, e)
	}
	is(t, "Cut in no room", none.cut(2, 65536), api.OK)
	x := newBoth(t, 3)
	x.make(1, "a", api.File, "")
	x.make(1, "b", api.File, "")
	x.write(2, 0, make([]byte, 20))
	if n, e := x.write(3, 8, make([]byte, 100)); n != 8 || e != api.OK {
		t.Errorf("where a chunk is left: %d, %d", n, e)
	}
	if n, e := x.write(3, 16, []byte("x")); n != 0 || e != api.ENOSPC {
		t.Errorf("where none is left: %d, %d", n, e)
	}
	is(t, "Unlink", x.unlink(1, "a"), api.OK)
	if n, e := x.write(3, 16, []byte("x")); n != 1 || e != api.OK || x.b.Used() != 2 {
		t.Errorf("where two are left again: %d, %d, %d chunks", n, e, x.b.Used())
	}
	is(t, "Rename onto it", x.rename(1, "b", 1, "c"), api.OK)
	x.make(1, "b", api.File, "")
	is(t, "Rename onto it", x.rename(1, "b", 1, "c"), api.OK)
	if x.b.Used() != 0 {
		t.Errorf("%d chunks", x.b.Used())
	}
}

// TestHeldFile: P5.1 and P5.6, a file without a name is there as long as it is held.
func TestHeldFile(t *testing.T) {
	x := sample(t)
	is(t, "Hold", x.hold(goneFile), api.OK)
	if n, e := x.write(goneFile, 20, []byte("more")); n != 4 || e != api.OK {
		t.Errorf("Write: %d, %d", n, e)
	}
	if data, e := x.read(goneFile, 0, 99); string(data) != "x"+strings.Repeat("\x00", 19)+"more" || e != api.OK {
		t.Errorf("Read: %q, %d", data, e)
	}
	is(t, "Cut", x.cut(goneFile, 22), api.OK)
	is(t, "Mark", x.mark(goneFile, 5), api.OK)
	is(t, "Link", x.link(1, "n", goneFile), api.ENOENT)
	is(t, "the first Release", x.release(goneFile), api.OK)
	if s, e := x.b.Stat(goneFile); s != (api.Stat{Kind: api.File, Size: 22}) || e != api.OK || x.b.Used() != 3 {
		t.Errorf("Stat: %v, %d, with %d chunks", s, e, x.b.Used())
	}
	is(t, "the last Release", x.release(goneFile), api.OK)
	is(t, "one Release more", x.release(goneFile), api.ENOENT)
	none(t, x.b, goneFile)
	if x.b.Used() != 1 || x.b.Inodes() != 8 {
		t.Errorf("%d chunks, %d inodes", x.b.Used(), x.b.Inodes())
	}
	// The number's next inode has nothing of it.
	if ino, e := x.make(1, "n", api.File, ""); ino != goneFile || e != api.OK || x.b.Marks(ino) != 0 {
		t.Errorf("Make: %d, %d, marks %d", ino, e, x.b.Marks(ino))
	}
	is(t, "Release of the next one", x.release(goneFile), api.EINVAL)
	if s, e := x.b.Stat(goneFile); s != (api.Stat{Kind: api.File, Link: 1}) || e != api.OK {
		t.Errorf("Stat of the next one: %v, %d", s, e)
	}
}

// TestHeldDir: P5.2 and P5.6, a directory that was taken away is there as long as it is held, and gets no name.
func TestHeldDir(t *testing.T) {
	x := sample(t)
	is(t, "Hold", x.hold(goneDir), api.OK)
	if all, e := x.b.All(goneDir); len(all) != 0 || e != api.OK {
		t.Errorf("All: %v, %d", all, e)
	}
	if ino, e := x.get(goneDir, "n"); ino != 0 || e != api.ENOENT {
		t.Errorf("Get: %d, %d", ino, e)
	}
	if ino, e := x.make(goneDir, "n", api.File, ""); ino != 0 || e != api.ENOENT {
		t.Errorf("Make: %d, %d", ino, e)
	}
	is(t, "Link", x.link(goneDir, "n", file), api.ENOENT)
	is(t, "Rename", x.rename(1, "again", goneDir, "n"), api.ENOENT)
	is(t, "Mark", x.mark(goneDir, api.Opaque), api.OK)
	if x.b.Kind(goneDir) != api.Dir || x.b.Parent(goneDir) != 1 || x.b.Marks(goneDir) != api.Opaque {
		t.Errorf("kind %d, parent %d, marks %d", x.b.Kind(goneDir), x.b.Parent(goneDir), x.b.Marks(goneDir))
	}
	is(t, "the first Release", x.release(goneDir), api.OK)
	is(t, "the last Release", x.release(goneDir), api.OK)
	none(t, x.b, goneDir)
	if ino, e := x.make(1, "n", api.Dir, ""); ino != goneDir || e != api.OK || x.b.Marks(ino) != 0 {
		t.Errorf("Make: %d, %d, marks %d", ino, e, x.b.Marks(ino))
	}
}

// TestHolds: P5.6, holds are counted, and change nothing of what has a name.
func TestHolds(t *testing.T) {
	for _, ino := range []int{1, full, file, link, white, empty} {
		x := sample(t)
		is(t, "Release of what nobody holds", x.release(ino), api.EINVAL)
		for range 100 {
			is(t, "Hold", x.hold(ino), api.OK)
		}
		for range 100 {
			is(t, "Release", x.release(ino), api.OK)
		}
		is(t, "one Release more", x.release(ino), api.EINVAL)
		if x.b.Inodes() != 9 {
			t.Errorf("%d inodes", x.b.Inodes())
		}
	}
}

// TestMarks: P5.6, marks are any number, and an inode's own, whatever its names are.
func TestMarks(t *testing.T) {
	x := sample(t)
	for _, marks := range []int{1, 2, 3, -1, math.MaxInt, math.MinInt, 0, 7} {
		for _, ino := range []int{1, full, file, link, white, empty, goneFile, goneDir} {
			is(t, "Mark", x.mark(ino, marks), api.OK)
			if got := x.b.Marks(ino); got != marks {
				t.Errorf("Marks(%d): %d, want %d", ino, got, marks)
			}
		}
	}
	x.rename(1, "full", 1, "n")
	x.link(1, "m", file)
	x.unlink(1, "again")
	x.write(file, 0, []byte("y"))
	for _, ino := range []int{full, file} {
		if got := x.b.Marks(ino); got != 7 {
			t.Errorf("Marks(%d): %d, want 7", ino, got)
		}
	}
	x.rmdir(1, "empty")
	if ino, _ := x.make(1, "empty", api.Dir, ""); ino != empty || x.b.Marks(ino) != 0 {
		t.Errorf("a new inode %d has the marks %d", ino, x.b.Marks(ino))
	}
}

// TestFresh: R3, what All and Read return, and what was handed to Write, may be changed without changing the branch.
func TestFresh(t *testing.T) {
	x := sample(t)
	all, _ := x.b.All(1)
	kept, _ := x.b.All(1)
	want := slices.Clone(kept)
	for i := range all {
		all[i] = api.Entry{Name: "changed", Ino: 99}
	}
	_ = append(all, api.Entry{Name: "more", Ino: 98})
	x.look("a change of what All returned", nil)
	x.make(1, "a", api.File, "")
	x.unlink(1, "link")
	if !slices.Equal(kept, want) {
		t.Errorf("what All returned has become %v", kept)
	}
	data, _ := x.b.Read(file, 0, 9)
	for i := range data {
		data[i] = 'z'
	}
	_ = append(data, "more"...)
	x.look("a change of what Read returned", nil)
	again, _ := x.b.Read(file, 0, 9)
	x.write(file, 0, []byte("other"))
	if string(again) != "some text" {
		t.Errorf("what Read returned has become %q", again)
	}
	handed := bytes.Repeat([]byte("abcd"), 8)
	x.b.Write(file, 0, handed)
	clear(handed)
	if data, e := x.b.Read(file, 0, 99); string(data) != strings.Repeat("abcd", 8) || e != api.OK {
		t.Errorf("what was handed to Write and cleared reads as %q, %d", data, e)
	}
}

// TestApart: R5, several branches share nothing.
func TestApart(t *testing.T) {
	all := []*both{sample(t), newBoth(t, 3), sample(t), newBoth(t, 3)}
	all[0].make(1, "n", api.Dir, "")
	all[1].make(1, "full", api.File, "")
	all[1].write(2, 0, make([]byte, 99))
	all[2].write(file, 0, []byte("other"))
	all[2].mark(1, 3)
	all[0].release(goneFile)
	all[3].hold(1)
	all[2].rename(1, "full", empty, "n")
	newBoth(t, 3)
	for _, x := range all {
		x.look("calls on other branches", nil)
		sound(t, x.b)
	}
	if all[0].b.Used() != 1 || all[1].b.Used() != 3 || all[2].b.Used() != 2 || all[3].b.Used() != 0 {
		t.Error("chunks of others are counted")
	}
}
