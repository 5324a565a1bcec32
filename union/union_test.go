package union

import (
	"slices"
	"strconv"
	"testing"

	"veneer/api"
	"veneer/flat"
)

// TestExamples: the chapter's examples.
func TestExamples(t *testing.T) {
	b := newBoth(t, nil, []api.Line{dir("/a"), file("/a/f", "hi")}, 9)
	b.gives(openAs(r, "a/f"), api.Result{N: 0})
	b.gives(openAs(w, "a/f"), api.Result{N: 1})
	b.gives(pwrite(1, "H", 0), api.Result{N: 1})
	b.gives(read(0, 9), api.Result{N: 2, S: "Hi"})
	b.all(of(api.OpUnlink, "a/f"), of(api.OpRmdir, "a"), of(api.OpMkdir, "a"))
	b.gives(of(api.OpOpendir, "a"), api.Result{N: 2})
	b.gives(on(api.OpReaddir, 2), api.Result{})
	b.is(dir("/a"))
}

// TestReadme: the example of the README.
func TestReadme(t *testing.T) {
	b := newBoth(t, nil, []api.Line{dir("/a"), file("/a/f", "hi")}, 8)
	b.gives(openAs(r, "a/f"), api.Result{N: 0})
	c := b.begin("a/f")
	b.steps(c, 1)
	b.publish(c, true)
	b.none("a/f", api.OK)
	b.gives(openAs(w, "a/f"), api.Result{N: 1})
	b.gives(pwrite(1, "H", 0), api.Result{N: 1})
	b.gives(read(0, 9), api.Result{N: 2, S: "Hi"})
	b.all(of(api.OpUnlink, "a/f"), of(api.OpRmdir, "a"), of(api.OpMkdir, "a"))
	b.is(dir("/a"))
}

// TestNew: P13.1: what a new system tells: of no lines, of lower ones, of upper ones, of both.
func TestNew(t *testing.T) {
	for _, x := range []struct {
		over, low, lines, lower []api.Line
		used                    int
	}{
		{},
		{over: []api.Line{}, low: []api.Line{}},
		{low: []api.Line{dir("/a"), file("/a/f", text(99))}, lines: []api.Line{dir("/a"), file("/a/f", text(99))}, lower: []api.Line{dir("/a"), file("/a/f", text(99))}},
		{low: []api.Line{dir("/b/"), file("//a", ""), symlink("/b/./l", "x")}, lines: []api.Line{file("/a", ""), dir("/b"), symlink("/b/l", "x")}, lower: []api.Line{file("/a", ""), dir("/b"), symlink("/b/l", "x")}},
		{over: []api.Line{dir("/a"), file("/a/f", text(33)), symlink("/a/l", "f")}, lines: []api.Line{dir("/a"), file("/a/f", text(33)), symlink("/a/l", "f")}, used: 3},
		{over: []api.Line{file("/o", "o"), symlink("/p", "o")}, lines: []api.Line{file("/o", "o"), symlink("/p", "o")}, used: 1},
		{over: []api.Line{whiteout("/a"), dir("/b"), whiteout("/b/a")}, lines: []api.Line{dir("/b")}},
		{
			over:  []api.Line{whiteout("/a"), opaque("/b"), dir("/c"), whiteout("/c/x"), dir("/c/z"), opaque("/c/o")},
			low:   []api.Line{dir("/a"), dir("/a/x"), dir("/b"), file("/b/y", ""), dir("/c"), file("/c/x", ""), file("/c/y", "y"), dir("/c/o"), dir("/c/o/o")},
			lines: []api.Line{dir("/b"), dir("/c"), dir("/c/o"), file("/c/y", "y"), dir("/c/z")},
			lower: []api.Line{dir("/a"), dir("/a/x"), dir("/b"), file("/b/y", ""), dir("/c"), dir("/c/o"), dir("/c/o/o"), file("/c/x", ""), file("/c/y", "y")},
		},
		// Where no mark is permitted, it is no mark: a lower directory has no data.
		{low: []api.Line{opaque("/a"), file("/a/f", "")}, over: []api.Line{dir("/a")}, lines: []api.Line{dir("/a"), file("/a/f", "")}, lower: []api.Line{dir("/a"), file("/a/f", "")}},
		// The names of the upper branch's own directories, and of drafts, are free for others.
		{over: []api.Line{dir("/up"), dir("/work"), file("/work/c", "c"), file("/1", "")}, lines: []api.Line{file("/1", ""), dir("/up"), dir("/work"), file("/work/c", "c")}, used: 1},
	} {
		s := newSystem(t, x.over, x.low, 9)
		if got := s.Lines(); !flat.Same(got, x.lines) {
			t.Errorf("%q over %q: the lines %q; want %q", flat.Text(x.over), flat.Text(x.low), flat.Text(got), flat.Text(x.lines))
		}
		if got := s.Lower(); !flat.Same(got, x.lower) {
			t.Errorf("%q over %q: the lower lines %q; want %q", flat.Text(x.over), flat.Text(x.low), flat.Text(got), flat.Text(x.lower))
		}
		if s.Used() != x.used || s.Left() != 0 || len(s.Open()) != 0 {
			t.Errorf("%q over %q: %d chunks, %d left, open: %v", flat.Text(x.over), flat.Text(x.low), s.Used(), s.Left(), s.Open())
		}
	}
}

// many are n files.
func many(at string, n int) []api.Line {
	var l []api.Line
	for i := range n {
		l = append(l, file(at+strconv.Itoa(i), ""))
	}
	return l
}

// wrong are lines that make no branch, neither the upper nor the lower one, and the error that they come to.
func wrong() map[api.Errno][][]api.Line {
	return map[api.Errno][][]api.Line{
		api.EINVAL: {
			{dir("")}, {dir("/")}, {dir("/.")}, {dir("/..")}, {dir("/a/..")}, {dir("a")}, {dir("./a")}, {file("/a\x00", "")}, {dir("/" + text(61))}, {dir("/" + text(400))},
			{{Path: "/a"}}, {{Path: "/a", Kind: 5}}, {{Path: "/a", Kind: -1}}, {{Path: "/a", Kind: 258}},
			{symlink("/a", "")}, {symlink("/a", text(401))}, {dir("/a"), {Path: "/a/b", Kind: 7}},
		},
		api.ENOENT:  {{dir("/a/b")}, {file("/a/b", "")}, {dir("/a"), dir("/b/c")}, {dir("/a"), dir("/a/../b")}, {{Path: "/a/b", Kind: 9}}, {symlink("/a/b", "")}},
		api.ENOTDIR: {{file("/a", ""), file("/a/b", "")}, {symlink("/a", "/"), dir("/a/b")}, {file("/a", ""), dir("/a/b/c")}, {file("/a", ""), {Path: "/a/b", Kind: 9}}},
		api.EEXIST:  {{dir("/a"), dir("/a")}, {dir("/a"), file("/a", "x")}, {file("/a", "x"), file("/a", "x")}, {dir("/a"), symlink("/a", "b")}, {dir("/a"), symlink("/a", "")}},
		api.ENOSPC:  {{file("/a", text(api.MaxFile+1))}, many("/f", 200)},
	}
}

// TestWrongLines: P13.1: lines that make no branch come to their error, below or above; then there is no system.
func TestWrongLines(t *testing.T) {
	fails := func(over, low []api.Line, room int, want api.Errno) {
		t.Helper()
		s, e := New(over, low, room)
		if e != want || s != nil {
			t.Errorf("%.300q over %.300q, room %d: error %d, a system %t; want %d", flat.Text(over), flat.Text(low), room, e, s != nil, want)
		}
	}
	for e, all := range wrong() {
		for _, l := range all {
			fails(l, nil, 9999, e)
			fails(nil, l, 9999, e)
			fails(append([]api.Line{dir("/x")}, l...), []api.Line{dir("/y")}, 9999, e)
			// The lower lines come first, then the room, then the upper lines.
			fails([]api.Line{dir("/no/x")}, l, -1, e)
			fails(l, []api.Line{file("/f", ""), dir("/f/x")}, -1, api.ENOTDIR)
			fails(l, nil, -1, api.EINVAL)
		}
	}
	for _, room := range []int{-1, -1 << 40, api.MaxRoom + 1, 1 << 32} {
		fails(nil, nil, room, api.EINVAL)
		fails([]api.Line{dir("/no/x")}, nil, room, api.EINVAL)
		fails(nil, []api.Line{dir("/no/x")}, room, api.ENOENT)
	}
	for _, l := range [][]api.Line{{whiteout("/a")}, {dir("/a"), whiteout("/a/b")}, {{Path: "/a", Kind: api.White, Data: "o"}}} {
		fails(nil, l, 9, api.EINVAL)
		newSystem(t, l, nil, 9)
	}
	fails([]api.Line{whiteout("/a/b")}, nil, 9, api.ENOENT)
	fails([]api.Line{whiteout("/a"), whiteout("/a")}, nil, 9, api.EEXIST)
	fails([]api.Line{whiteout("/a"), dir("/a")}, []api.Line{dir("/a")}, 9, api.EEXIST)
	fails([]api.Line{dir("/a"), opaque("/a")}, nil, 9, api.EEXIST)
	fails([]api.Line{whiteout("/a"), file("/a/b", "")}, []api.Line{dir("/a")}, 9, api.ENOTDIR)
	fails([]api.Line{dir("/a/b")}, []api.Line{dir("/a")}, 9, api.ENOENT) // its directory is in the lower branch alone
	fails([]api.Line{dir("/a"), {Path: "/b"}, dir("/c/d")}, nil, 9, api.EINVAL)
	fails([]api.Line{dir("/a"), dir("/c/d"), {Path: "/b"}}, nil, 9, api.ENOENT)
}

// TestRooms: P13.1: the room is the upper branch's alone, and its directories need no room.
func TestRooms(t *testing.T) {
	long := []api.Line{file("/f", text(49))}
	for room := range 6 {
		s, e := New(long, long, room)
		if (e == api.OK) != (room >= 4) || (s != nil) != (room >= 4) || e != api.OK && e != api.ENOSPC {
			t.Errorf("room %d: error %d", room, e)
		}
		s = newSystem(t, nil, long, room)
		if s.Used() != 0 {
			t.Errorf("room %d: %d used", room, s.Used())
		}
	}
	for _, room := range []int{0, 1, api.MaxRoom} {
		newSystem(t, nil, nil, room)
	}
	// The upper branch has three inodes of its own.
	newSystem(t, many("/f", 197), nil, 0)
	if s, e := New(many("/f", 198), nil, 0); s != nil || e != api.ENOSPC {
		t.Errorf("198 upper files: error %d", e)
	}
	newSystem(t, nil, many("/f", 199), 0)
	newSystem(t, many("/f", 100), many("/f", 199), 0)
}

// TestTooMany: the lines of a system that New returns yield a branch: there is none of more names than a branch has.
func TestTooMany(t *testing.T) {
	for _, x := range []struct{ over, low int }{{100, 99}, {197, 2}, {1, 198}, {100, 100}, {197, 3}, {1, 199}, {197, 199}} {
		s, e := New(many("/a", x.over), many("/b", x.low), 0)
		if x.over+x.low < api.MaxInode {
			if e != api.OK || len(s.Lines()) != x.over+x.low {
				t.Errorf("%d over %d: error %d", x.over, x.low, e)
			}
		} else if s != nil || e != api.ENOSPC {
			t.Errorf("%d over %d: error %d, a system %t", x.over, x.low, e, s != nil)
		}
	}
}

// TestOwnMemory: P13.1: what is handed in isn't changed or kept, and what is told is the caller's own.
func TestOwnMemory(t *testing.T) {
	over, low := overSample(), lowSample()
	s := newSystem(t, over, low, 99)
	if !flat.Same(over, overSample()) || !flat.Same(low, lowSample()) {
		t.Errorf("New changed its lines")
	}
	s.Do(openAs(r, "f"))
	s.Do(openAs(r, "g"))
	lines, lower := s.Lines(), s.Lower()
	for _, l := range [][]api.Line{over, low, s.Lines(), s.Lower()} {
		clear(l)
	}
	clear(s.Open())
	if !flat.Same(s.Lines(), lines) || !flat.Same(s.Lower(), lower) || !slices.Equal(s.Open(), []int{0, 1}) {
		t.Errorf("the system changed with its lines")
	}
	other := newSystem(t, overSample(), lowSample(), 99)
	other.Do(of(api.OpUnlink, "f"))
	if !flat.Same(s.Lines(), lines) {
		t.Errorf("a system changed with another one")
	}
}

// TestNone: what New returns beside an error, and Begin where there is nothing to copy, can be called, too.
func TestNone(t *testing.T) {
	s, _ := New(nil, nil, -1)
	for op := range 23 {
		s.Do(api.Call{Op: op, Flag: r, A: "a", B: "b"})
	}
	if len(s.Lines()) != 0 || len(s.Lower()) != 0 || s.Used() != 0 || s.Left() != 0 || len(s.Open()) != 0 {
		t.Errorf("no system has something")
	}
	c, e := s.Begin("a")
	if c != nil || e == api.OK {
		t.Errorf("a copy in no system: error %d", e)
	}
	if whole, e := c.Step(); !whole || e != api.OK || c.Key() != 0 || c.Publish() {
		t.Errorf("no copy has something to do: error %d", e)
	}
	c.Drop()
}

// TestNoSuchOp: P13.2: what is no Op is EINVAL.
func TestNoSuchOp(t *testing.T) {
	b := watched(t)
	for _, op := range []int{0, -1, -20, 21, 22, 256, 257, 1 << 32, 1<<32 + 1, -1 << 63} {
		b.fails(api.Call{Op: op, Flag: rwc, N: 1, A: "new", B: "other"}, api.EINVAL)
	}
}

// TestFull: P13.2: where all descriptors are open, no other one is, nothing is made or copied for it, and this is told ahead of what is wrong with the path.
func TestFull(t *testing.T) {
	b := sample(t)
	for i := range api.MaxOpen {
		at := []string{"d/f", "g", "m/p/q", "t/i"}[i%4]
		b.gives([]api.Call{openAs(r, at), of(api.OpOpendir, "/")}[i%5/4], api.Result{N: int64(i)})
	}
	used := b.s.Used()
	for _, at := range []string{"d/g", "new", "d", "", "no/x", "ko", "g/"} {
		for _, flag := range []int{r, w, rwc, rwx, w | api.FlagCut} {
			b.fails(openAs(flag, at), api.EMFILE)
		}
		b.fails(of(api.OpOpendir, at), api.EMFILE)
		b.fails(openAs(r|api.FlagCut, at), api.EINVAL)
	}
	if b.s.Used() != used {
		t.Errorf("%d chunks used; they were %d", b.s.Used(), used)
	}
	b.all(on(api.OpClose, 20), on(api.OpClose, 4), on(api.OpClose, 9))
	b.gives(openAs(rwx, "new"), api.Result{N: 4})
	b.gives(of(api.OpOpendir, "d"), api.Result{N: 9})
	b.gives(openAs(r, "h"), api.Result{N: 20})
	b.fails(openAs(r, "h"), api.EMFILE)
}

// TestSeek: P13.2: a descriptor of a lower file stands where one of the model does, also when the file is copied.
func TestSeek(t *testing.T) {
	seek := func(flag int, off int64) api.Call { return api.Call{Op: api.OpSeek, Flag: flag, Off: off} }
	b := sample(t)
	b.all(openAs(r, "d/f"))
	b.gives(seek(2, -2), api.Result{N: 3})
	b.gives(read(0, 9), api.Result{N: 2, S: "lo"})
	b.gives(seek(1, -4), api.Result{N: 1})
	b.fails(seek(2, -6), api.EINVAL)
	b.fails(seek(3, 0), api.EINVAL)
	b.all(openAs(wa, "d/f"), write(1, " you"))
	b.gives(read(0, 9), api.Result{N: 8, S: "ello you"})
	b.gives(seek(2, -3), api.Result{N: 6})
	b.gives(seek(0, api.MaxOff), api.Result{N: api.MaxOff})
	b.gives(read(0, 9), api.Result{})
	b.gives(api.Call{Op: api.OpSeek, Fd: 1, Flag: 1}, api.Result{N: 9})
}

// TestNumbers: P13.2: N and Off at and beyond their bounds, on descriptors of the lower branch and the upper one.
func TestNumbers(t *testing.T) {
	for _, x := range []int64{-1 << 63, -1 << 40, -1<<32 + 1, -65536, -1, 0, 1, 16, 59, 60, 61, 65535, 65536, 65537, 1<<31 - 1, 1 << 31, 1 << 32, 1<<40 - 1, 1 << 40, 1<<40 + 1, 1<<63 - 1} {
		b := newBoth(t, overSample(), lowSample(), api.MaxRoom)
		b.all(openAs(r, "d/g"), openAs(rw, "m/b"), of(api.OpOpendir, "d"))
		for fd := -1; fd <= 3; fd++ {
			b.do(read(fd, x))
			b.do(pread(fd, x, 3))
			b.do(pread(fd, 3, x))
			b.do(pwrite(fd, "ab", x))
			b.do(pwrite(fd, "", x))
			for flag := -1; flag <= 3; flag++ {
				b.do(api.Call{Op: api.OpSeek, Fd: fd, Flag: flag, Off: x})
				b.do(read(fd, 2))
				b.do(write(fd, "cd"))
			}
			b.do(api.Call{Op: api.OpSeek, Fd: fd})
		}
		for _, at := range []string{"d/g", "m/b", "d", "no"} {
			b.do(cut(at, x))
		}
	}
}

// TestNewDirectory: P13.2: a new directory over a White shows nothing of the lower one, whatever is made in it or taken away.
func TestNewDirectory(t *testing.T) {
	b := watched(t)
	b.all(of(api.OpMkdir, "v"), of(api.OpOpendir, "v"), of(api.OpMkdir, "v/z"), of(api.OpRmdir, "v/z"))
	b.fails(of(api.OpLstat, "v/z"), api.ENOENT)
	b.gives(of(api.OpStat, "v"), api.Result{T: api.Stat{Kind: api.Dir, Link: 1}})
	b.all(openAs(rwx, "v/new"), of(api.OpUnlink, "v/new"), of(api.OpRmdir, "v"))
	b.fails(of(api.OpLstat, "v"), api.ENOENT)
	b.all(of(api.OpMkdir, "v"), two(api.OpRename, "v", "m/v"), two(api.OpRename, "m/v", "w"), two(api.OpRename, "w", "m/c"), two(api.OpRename, "m/c", "v"), of(api.OpRmdir, "v"))
	b.tellAll()
}

// TestRenameDirectory: P13.2: a directory of the lower branch is renamed with all below it; its old name is gone.
func TestRenameDirectory(t *testing.T) {
	b := newBoth(t, nil, []api.Line{dir("/a"), dir("/a/b"), file("/a/b/f", text(40)), dir("/a/b/e"), symlink("/a/l", "b/f"), dir("/c"), dir("/c/e"), dir("/c/e2"), file("/c/f", "c")}, 9)
	b.all(openAs(r, "a/b/f"), of(api.OpOpendir, "a"), of(api.OpOpendir, "a/b"), of(api.OpOpendir, "c/e"))
	b.all(two(api.OpRename, "a", "c/e"))
	b.is(dir("/c"), dir("/c/e"), dir("/c/e/b"), dir("/c/e/b/e"), file("/c/e/b/f", text(40)), symlink("/c/e/l", "b/f"), dir("/c/e2"), file("/c/f", "c"))
	b.all(openAs(wa, "c/e/l"), write(4, "!"), of(api.OpUnlink, "c/e/b/f"), of(api.OpMkdir, "a"), of(api.OpMkdir, "a/b"))
	b.gives(pread(0, 99, 39), api.Result{N: 2, S: text(40)[39:] + "!"})
	if got := b.anew(2); !slices.Equal(got, []string{"e"}) {
		t.Errorf("the moved directory has %q", got)
	}
	if got := b.anew(3); len(got) != 0 {
		t.Errorf("the directory that was replaced has %q", got)
	}
	b.all(two(api.OpRename, "c/e", "c/e2"), two(api.OpRename, "c/e2", "c/e"), two(api.OpRename, "c/e/b", "c/e/l2"), of(api.OpRmdir, "a/b"), two(api.OpRename, "c", "a"))
	b.is(dir("/a"), dir("/a/e"), symlink("/a/e/l", "b/f"), dir("/a/e/l2"), dir("/a/e/l2/e"), file("/a/f", "c"))
	b.tellAll()
}

// TestManyNames: P13.2, P13.4: a file of the lower branch that gets several names is one file under all of them.
func TestManyNames(t *testing.T) {
	b := newBoth(t, nil, []api.Line{dir("/d"), file("/d/f", "hello"), dir("/e"), file("/e/f", "other")}, 9)
	b.all(openAs(r, "d/f"), two(api.OpLink, "d/f", "g"), two(api.OpLink, "g", "e/g"), openAs(w, "e/g"), write(1, "HE"))
	b.gives(read(0, 9), api.Result{N: 5, S: "HEllo"})
	b.gives(of(api.OpStat, "d/f"), api.Result{T: api.Stat{Kind: api.File, Size: 5, Link: 3}})
	b.all(of(api.OpUnlink, "d/f"), two(api.OpRename, "g", "d/f"), two(api.OpRename, "d/f", "e/g"), cut("d/f", 2))
	b.is(dir("/d"), file("/d/f", "HE"), dir("/e"), file("/e/f", "other"), file("/e/g", "HE"))
	b.all(two(api.OpRename, "e/g", "e/f"), of(api.OpUnlink, "d/f"), of(api.OpUnlink, "e/f"), pwrite(1, "y", 1))
	b.gives(pread(0, 9, 0), api.Result{N: 2, S: "Hy"})
	b.is(dir("/d"), dir("/e"))
	b.fails(two(api.OpLink, "d/f", "d/f"), api.ENOENT)
}

// TestLinks: P13.2: as many names as a file may have; a link may have several names, too.
func TestLinks(t *testing.T) {
	b := newBoth(t, []api.Line{whiteout("/w")}, []api.Line{file("/f", "x"), symlink("/l", "f"), file("/w", "")}, 9)
	for i := 1; i < api.MaxLink; i++ {
		b.all(two(api.OpLink, "f", "f"+strconv.Itoa(i)), two(api.OpLink, "l", "l"+strconv.Itoa(i)))
	}
	b.fails(two(api.OpLink, "f", "w"), api.EMLINK)
	b.fails(two(api.OpLink, "l7", "w"), api.EMLINK)
	b.fails(two(api.OpLink, "f7", "l"), api.EEXIST)
	b.fails(two(api.OpLink, "l", "l/x"), api.ENOTDIR)
	b.all(of(api.OpUnlink, "f1"), two(api.OpLink, "f", "w"), of(api.OpUnlink, "l"), two(api.OpLink, "l7", "l"), openAs(rw, "l3"))
}

// TestOpenFiles: P13.4: a descriptor of a lower file reads what is written since, under whatever name, however the file was copied.
func TestOpenFiles(t *testing.T) {
	for _, calls := range [][]api.Call{
		{openAs(w, "d/f")},
		{openAs(w, "k/f")},
		{openAs(w|api.FlagCut, "d/l")},
		{cut("d/f", 3), openAs(w, "d/f")},
		{two(api.OpLink, "d/f", "new"), openAs(w, "new")},
		{two(api.OpLink, "d/f", "new"), of(api.OpUnlink, "d/f"), openAs(w, "new")},
		{two(api.OpRename, "d/f", "m/a"), openAs(w, "m/a")},
		{two(api.OpRename, "d", "m/d"), openAs(w, "m/d/f")},
		{two(api.OpRename, "d", "z"), two(api.OpRename, "z/f", "f"), openAs(w, "f")},
		{openAs(w, "d/f"), of(api.OpUnlink, "d/f"), openAs(rwx, "d/f")},
		{openAs(w, "d/f"), two(api.OpRename, "d", "t/d"), of(api.OpUnlink, "t/d/f")},
	} {
		b := sample(t)
		b.all(openAs(r, "d/f"), openAs(r, "d/f"), read(1, 2))
		b.all(calls...)
		b.all(write(2, "HELLO, you"))
		b.gives(read(0, 99), api.Result{N: 10, S: "HELLO, you"})
		b.gives(read(1, 99), api.Result{N: 8, S: "LLO, you"})
		b.all(on(api.OpClose, 0), pwrite(2, "!", 9), pread(1, 99, 0), on(api.OpClose, 2), on(api.OpClose, 1))
	}
}

// TestGoneFiles: P13.4: a descriptor of a lower file that was taken away keeps it, whatever gets its name then.
func TestGoneFiles(t *testing.T) {
	for _, calls := range [][]api.Call{
		{of(api.OpUnlink, "d/f")},
		{two(api.OpRename, "d/g", "d/f"), openAs(w, "d/f"), write(2, "new")},
		{of(api.OpUnlink, "d/f"), openAs(rwx, "d/f"), write(2, "new")},
		{of(api.OpUnlink, "d/f"), two(api.OpLink, "f", "d/f"), openAs(w, "d/f"), write(2, "new")},
		{of(api.OpUnlink, "d/f"), of(api.OpMkdir, "d/f"), two(api.OpRename, "d", "new")},
		{of(api.OpUnlink, "d/f"), two(api.OpRename, "d", "new"), openAs(rwc, "new/f"), write(2, "new")},
	} {
		b := sample(t)
		b.all(openAs(r, "d/f"), openAs(r, "d/f"))
		b.all(calls...)
		b.gives(read(0, 99), api.Result{N: 5, S: "hello"})
		b.all(on(api.OpClose, 0))
		b.gives(read(1, 99), api.Result{N: 5, S: "hello"})
		b.all(on(api.OpClose, 1))
	}
}

// TestOpenDirectories: P13.2: a directory's descriptor tells the names of its opening, or rewinding, whatever comes and goes; also of a directory that was taken away.
func TestOpenDirectories(t *testing.T) {
	want := func(got []string, want ...string) {
		t.Helper()
		if !slices.Equal(got, want) {
			t.Errorf("it tells %q; want %q", got, want)
		}
	}
	b := newBoth(t, []api.Line{dir("/m"), file("/m/u", ""), whiteout("/m/w")}, []api.Line{dir("/l"), file("/l/a", ""), file("/l/b", ""), dir("/m"), file("/m/a", ""), file("/m/w", "")}, 9)
	b.all(of(api.OpOpendir, "l"), of(api.OpOpendir, "m"), of(api.OpOpendir, "/"))
	b.gives(on(api.OpReaddir, 0), api.Result{N: 1, S: "a"})
	b.all(of(api.OpUnlink, "l/a"), of(api.OpUnlink, "l/b"), openAs(rwx, "l/c"), of(api.OpUnlink, "m/a"), openAs(rwx, "m/w"), of(api.OpMkdir, "x"))
	want(b.tell(0), "b")
	want(b.tell(1), "a", "u")
	want(b.tell(2), "l", "m")
	want(b.anew(0), "c")
	want(b.anew(1), "u", "w")
	want(b.anew(2), "l", "m", "x")
	b.all(of(api.OpUnlink, "l/c"), of(api.OpRmdir, "l"), of(api.OpUnlink, "m/w"), of(api.OpUnlink, "m/u"), two(api.OpRename, "x", "m"))
	want(b.anew(0))
	want(b.anew(1))
	b.all(of(api.OpMkdir, "l"), openAs(rwx, "l/d"), openAs(rwx, "m/d"))
	want(b.anew(0))
	want(b.anew(1))
	want(b.anew(2), "l", "m")
}

// TestCopiedOnce: P13.4: a file is copied once, however often it is opened, cut, linked and renamed.
func TestCopiedOnce(t *testing.T) {
	b := newBoth(t, nil, []api.Line{dir("/d"), file("/d/f", text(50))}, 4)
	b.all(openAs(w, "d/f"))
	for range 20 {
		b.all(openAs(rw, "d/f"), on(api.OpClose, 1), cut("d/f", 50), two(api.OpLink, "d/f", "g"), two(api.OpRename, "d/f", "h"), two(api.OpRename, "h", "d/f"), of(api.OpUnlink, "g"), two(api.OpRename, "d", "e"), two(api.OpRename, "e", "d"))
		if b.s.Used() != 4 {
			t.Fatalf("%d chunks used", b.s.Used())
		}
	}
	b.all(of(api.OpUnlink, "d/f"), on(api.OpClose, 0))
	if b.s.Used() != 0 {
		t.Errorf("%d chunks used", b.s.Used())
	}
}

// TestNoCopy: P13.3: what only reads, and what fails, copies nothing: where there is no room at all it does as the model.
func TestNoCopy(t *testing.T) {
	b := newBoth(t, overSample(), lowSample(), 6)
	if b.s.Used() != 6 {
		t.Fatalf("%d chunks used", b.s.Used())
	}
	b.all(openAs(r, "d/g"), openAs(r|api.FlagCreate, "d/f"), read(0, 99), of(api.OpStat, "d/g"), of(api.OpOpendir, "d"), of(api.OpReadlink, "d/l"), two(api.OpRename, "d/g", "d/g"), two(api.OpRename, "d", "d"))
	b.fails(write(0, "x"), api.EBADF)
	for _, c := range []api.Call{
		cut("d/g", -1), cut("d/g", api.MaxFile+1), openAs(rwx, "d/g"), openAs(w, "d/g/"), two(api.OpLink, "d/g", "d/f"), two(api.OpLink, "d/g", "new/"), two(api.OpLink, "d/g", "no/x"),
		two(api.OpRename, "d/g", "m"), two(api.OpRename, "d", "d/s/d"), two(api.OpRename, "d", "f"), two(api.OpRename, "d", "m"), two(api.OpRename, "d/g", "new/"), two(api.OpRename, "d", "no/x"), openAs(w|api.FlagCut, "d"),
	} {
		if got := b.do(c); got.E == api.OK || got.E == api.ENOSPC {
			t.Errorf("%+v: %+v", c, got)
		}
	}
	if b.s.Used() != 6 {
		t.Errorf("%d chunks used", b.s.Used())
	}
}
