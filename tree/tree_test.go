package tree

import (
	"math"
	"slices"
	"strconv"
	"strings"
	"testing"

	"veneer/api"
	"veneer/branch"
)

// step is a call, and what it comes to.
type step struct {
	c api.Call
	r api.Result
}

// fails is a call that comes to an error.
func fails(c api.Call, e api.Errno) step { return step{c, api.Result{E: e}} }

// The flags that are met most.
const (
	r   = api.FlagRead
	w   = api.FlagWrite
	rw  = r | w
	rwc = rw | api.FlagCreate
	rwx = rwc | api.FlagExcl
)

func openAs(flag int, a string) api.Call { return api.Call{Op: api.OpOpen, Flag: flag, A: a} }
func on(op, fd int) api.Call             { return api.Call{Op: op, Fd: fd} }
func of(op int, a string) api.Call       { return api.Call{Op: op, A: a} }
func two(op int, a, b string) api.Call   { return api.Call{Op: op, A: a, B: b} }

// The descriptors of a sample.
const (
	fdBoth   = 0 // of /d/f, to read and write, at 2
	fdRead   = 1 // of /d/f, at 0
	fdWrite  = 2 // of /d/f, at its end always
	fdDir    = 3 // of /d: e is told, f is next
	fdGone   = 4 // of a file without a name, "gone", to read and write, at 4
	fdNoDir  = 5 // of a directory without a name
	fdClosed = 6
)

// sample makes one, with room for 6 chunks, of which 2 are used.
//
//	/d/f   file "hello", which is /g too
//	/d/e   empty directory
//	/l     link to d/f; /ld: to d; /la: to /d/./e/../f; /ln: to nothing; /lx: to no/x; /lo: to lo
func sample(t *testing.T) *both {
	t.Helper()
	b := newBoth(t, 6)
	for _, c := range []api.Call{
		of(api.OpMkdir, "d"), of(api.OpMkdir, "d/e"),
		openAs(rwx, "d/f"), {Op: api.OpWrite, A: "hello"}, {Op: api.OpSeek, Off: 2},
		openAs(r, "d/f"), openAs(w|api.FlagAppend, "d/f"), two(api.OpLink, "d/f", "g"),
		two(api.OpSymlink, "d/f", "l"), two(api.OpSymlink, "d", "ld"), two(api.OpSymlink, "/d/./e/../f", "la"),
		two(api.OpSymlink, "nothing", "ln"), two(api.OpSymlink, "no/x", "lx"), two(api.OpSymlink, "lo", "lo"),
		of(api.OpOpendir, "d"), on(api.OpReaddir, fdDir),
		openAs(rwx, "gone"), {Op: api.OpWrite, Fd: fdGone, A: "gone"}, of(api.OpUnlink, "gone"),
		of(api.OpMkdir, "gone"), of(api.OpOpendir, "gone"), of(api.OpRmdir, "gone"),
	} {
		got, want := b.s.Do(c), b.p.do(c)
		if got.E != 0 || got != want {
			t.Fatalf("%s: %s; want %s", short(c), shortly(got), shortly(want))
		}
	}
	b.same("the sample was made")
	return b
}

// play does calls on a sample, one after the other.
func play(t *testing.T, steps []step) *both {
	t.Helper()
	b := sample(t)
	for _, x := range steps {
		b.gives(x.c, x.r)
	}
	return b
}

// apart does each call on a sample of its own.
func apart(t *testing.T, steps []step) {
	t.Helper()
	for _, x := range steps {
		sample(t).gives(x.c, x.r)
	}
}

// empty closes all descriptors and takes all names away: then nothing but the root may be left, whatever was done before.
func (b *both) empty() {
	b.t.Helper()
	for _, fd := range b.s.Open() {
		b.do(on(api.OpClose, fd))
	}
	var clear func(at string)
	clear = func(at string) {
		b.do(of(api.OpOpendir, "/"+at))
		for x := b.do(on(api.OpReaddir, 0)); x.N == 1; x = b.do(on(api.OpReaddir, 0)) {
			full := at + "/" + x.S
			if b.do(of(api.OpUnlink, full)).E == api.EISDIR {
				b.do(on(api.OpClose, 0))
				clear(full)
				b.do(of(api.OpRmdir, full))
				b.do(of(api.OpOpendir, "/"+at))
			}
		}
		b.do(on(api.OpClose, 0))
	}
	clear("")
	if x := b.s.Branch(); x.Inodes() != 1 || x.Used() != 0 || len(b.s.Open()) > 0 {
		b.t.Fatalf("all is closed and taken away: %d inodes, %d chunks, open: %v", x.Inodes(), x.Used(), b.s.Open())
	}
}

// TestExample: P9.2: the chapter's example.
func TestExample(t *testing.T) {
	b := newBoth(t, 10)
	for _, x := range []step{
		{of(api.OpMkdir, "a"), api.Result{}},
		{openAs(rwc, "a/f"), api.Result{N: 0}},
		{api.Call{Op: api.OpWrite, A: "hi"}, api.Result{N: 2}},
		{api.Call{Op: api.OpPread, N: 9, Off: 1}, api.Result{N: 1, S: "i"}},
		{of(api.OpUnlink, "a/f"), api.Result{}},
		{api.Call{Op: api.OpRead, N: 9}, api.Result{}},
		{api.Call{Op: api.OpSeek}, api.Result{}},
		{of(api.OpRmdir, "a"), api.Result{}},
		{on(api.OpClose, 0), api.Result{}},
		fails(of(api.OpStat, "a"), api.ENOENT),
		fails(of(api.OpStat, "f"), api.ENOENT),
	} {
		b.gives(x.c, x.r)
	}
	b.empty()
}

// TestNew: P9.1: a system has its branch, as it is, and no open descriptors; without a branch there is none.
func TestNew(t *testing.T) {
	if s := New(nil); s != nil {
		t.Errorf("a system without a branch")
	}
	if s := New(branch.New(-1)); s != nil {
		t.Errorf("a system of room -1")
	}
	b := branch.New(3)
	dir, _ := b.Make(1, "a", api.Dir, "")
	ino, _ := b.Make(dir, "f", api.File, "")
	b.Write(ino, 0, []byte("some text"))
	s := New(b)
	if s == nil || s.Branch() != b || len(s.Open()) != 0 {
		t.Fatalf("a new system isn't that of its branch, or has descriptors")
	}
	if b.Inodes() != 3 || b.Used() != 1 {
		t.Errorf("the branch has %d inodes and %d chunks", b.Inodes(), b.Used())
	}
	if got := s.Do(openAs(r, "a/f")); got != (api.Result{}) {
		t.Errorf("Open a/f: %s", shortly(got))
	}
	if got := s.Do(api.Call{Op: api.OpRead, N: 99}); got != (api.Result{N: 9, S: "some text"}) {
		t.Errorf("Read: %s", shortly(got))
	}
	if got := s.Do(of(api.OpMkdir, "a/b")); got.E != 0 || b.Inodes() != 4 || s.Branch() != b {
		t.Errorf("Mkdir a/b: %s; %d inodes", shortly(got), b.Inodes())
	}
}

// TestTwoSystems: P9.1: two systems share nothing.
func TestTwoSystems(t *testing.T) {
	x, y := sample(t), newBoth(t, 6)
	y.gives(openAs(rwx, "g"), api.Result{})
	y.gives(api.Call{Op: api.OpWrite, A: "other"}, api.Result{N: 5})
	x.same("another system changed")
	x.gives(on(api.OpClose, 0), api.Result{})
	y.same("another system changed")
}

// TestOpenOnes: P9.1: Open tells the open descriptors in increasing order, in memory of its own.
func TestOpenOnes(t *testing.T) {
	b := sample(t)
	is := func(want ...int) {
		t.Helper()
		got := b.s.Open()
		if !slices.Equal(got, want) {
			t.Fatalf("open: %v; want %v", got, want)
		}
		for i := range got {
			got[i] = 77
		}
		_ = append(got, 78)
		if again := b.s.Open(); !slices.Equal(again, want) {
			t.Fatalf("open, when what was told is spoilt: %v; want %v", again, want)
		}
	}
	is(0, 1, 2, 3, 4, 5)
	for _, fd := range []int{3, 0, 4} {
		b.gives(on(api.OpClose, fd), api.Result{})
	}
	is(1, 2, 5)
	b.gives(openAs(r, "g"), api.Result{N: 0})
	b.gives(of(api.OpOpendir, "/"), api.Result{N: 3})
	b.gives(openAs(r, "g"), api.Result{N: 4})
	b.gives(openAs(r, "g"), api.Result{N: 6})
	is(0, 1, 2, 3, 4, 5, 6)
	b.empty()
	is()
}

// TestNoSuchOp: P9.2: what is no Op is EINVAL, whatever else is wrong.
func TestNoSuchOp(t *testing.T) {
	b := sample(t)
	for _, op := range []int{0, -1, -2, -20, 21, 22, 40, 255, 256, 257, 1 << 16, 1 << 32, 1<<32 + 1, -1 << 32, math.MinInt, math.MinInt + 1, math.MaxInt} {
		for _, a := range []string{"", "d", "new", "no/x"} {
			for _, fd := range []int{-1, 0, 3, 6} {
				b.gives(api.Call{Op: op, Fd: fd, Flag: rwc, N: 1, A: a, B: "other"}, api.Result{E: api.EINVAL})
			}
		}
	}
	b.empty()
}

// badNumbers are numbers of descriptors that a sample has not.
var badNumbers = []int{-1, -2, -32, -64, 6, 7, 31, 32, 33, 64, 256, 1 << 32, 1<<32 + 1, -1 << 32, math.MinInt, math.MaxInt}

// TestBadDescriptors: P9.2: a descriptor that isn't open is EBADF, before whatever else is wrong.
func TestBadDescriptors(t *testing.T) {
	b := sample(t)
	for _, fd := range badNumbers {
		for _, op := range []int{api.OpClose, api.OpRead, api.OpWrite, api.OpPread, api.OpPwrite, api.OpSeek, api.OpReaddir, api.OpRewind} {
			for _, n := range []int64{-1, 0, 1} {
				for _, flag := range []int{0, 1, 2, 3} {
					b.gives(api.Call{Op: op, Fd: fd, Flag: flag, N: n, Off: n, A: "x"}, api.Result{E: api.EBADF})
				}
			}
		}
	}
	b.empty()
}

// TestWrongDescriptors: P9.2: descriptors of files and directories, and flags, where the others are asked for: EBADF, before EINVAL.
func TestWrongDescriptors(t *testing.T) {
	b := sample(t)
	for _, x := range []struct{ op, fd int }{
		{api.OpRead, fdWrite}, {api.OpRead, fdDir}, {api.OpRead, fdNoDir},
		{api.OpPread, fdWrite}, {api.OpPread, fdDir}, {api.OpPread, fdNoDir},
		{api.OpWrite, fdRead}, {api.OpWrite, fdDir}, {api.OpWrite, fdNoDir},
		{api.OpPwrite, fdRead}, {api.OpPwrite, fdDir}, {api.OpPwrite, fdNoDir},
		{api.OpSeek, fdDir}, {api.OpSeek, fdNoDir},
		{api.OpReaddir, fdBoth}, {api.OpReaddir, fdRead}, {api.OpReaddir, fdWrite}, {api.OpReaddir, fdGone},
		{api.OpRewind, fdBoth}, {api.OpRewind, fdRead}, {api.OpRewind, fdWrite}, {api.OpRewind, fdGone},
	} {
		for _, n := range []int64{-1, 0, 3, 1 << 50} {
			for _, flag := range []int{0, 2, 9} {
				b.gives(api.Call{Op: x.op, Fd: x.fd, Flag: flag, N: n, Off: n, A: "x"}, api.Result{E: api.EBADF})
			}
		}
	}
	b.gives(on(api.OpReaddir, fdDir), api.Result{N: 1, S: "f"})
	b.empty()
}

// TestOpen: P9.2: OpOpen.
func TestOpen(t *testing.T) {
	const (
		create = api.FlagCreate
		excl   = api.FlagExcl
		cut    = api.FlagCut
		app    = api.FlagAppend
	)
	ok := api.Result{N: fdClosed}
	apart(t, []step{
		fails(openAs(0, "d/f"), api.EINVAL), fails(openAs(create, "new"), api.EINVAL), fails(openAs(create|excl|cut|app, "d/f"), api.EINVAL),
		fails(openAs(r|cut, "d/f"), api.EINVAL), fails(openAs(r|app, "d/f"), api.EINVAL), fails(openAs(r|create|app, "new"), api.EINVAL),
		fails(openAs(cut, "d/f"), api.EINVAL), fails(openAs(app, ""), api.EINVAL), fails(openAs(0, ""), api.EINVAL), fails(openAs(64, "d/f"), api.EINVAL),
		{openAs(r, "d/f"), ok}, {openAs(w, "d/f"), ok}, {openAs(rw, "/d/f"), ok}, {openAs(w|cut, "d/f"), ok}, {openAs(w|app, "g"), ok}, {openAs(r|64, "g"), ok},
		{openAs(rwc, "d/f"), ok}, {openAs(r|excl, "d/f"), ok}, {openAs(r|create, "d/f"), ok}, {openAs(r|excl, "l"), ok},
		{openAs(r, "l"), ok}, {openAs(r, "la"), ok}, {openAs(r, "ld/f"), ok}, {openAs(r, "ld/../d/./f"), ok},
		{openAs(rwc, "new"), ok}, {openAs(rwx, "new"), ok}, {openAs(r|create, "d/new"), ok}, {openAs(rwx|cut|app, "ld/new"), ok}, {openAs(rwc, "ln"), ok},
		fails(openAs(rwx, "d/f"), api.EEXIST), fails(openAs(rwx, "d"), api.EEXIST), fails(openAs(rwx, "/"), api.EEXIST), fails(openAs(rwx, ".."), api.EEXIST),
		fails(openAs(rwx, "l"), api.EEXIST), fails(openAs(rwx, "ln"), api.EEXIST), fails(openAs(rwx, "lo"), api.EEXIST), fails(openAs(rwx, "lx"), api.EEXIST),
		fails(openAs(rwx, "ld/"), api.EEXIST), fails(openAs(rwx, "ln/"), api.EISDIR), fails(openAs(rwc, "ln/"), api.EISDIR), fails(openAs(rwx, "l/"), api.ENOTDIR),
		fails(openAs(r, "d"), api.EISDIR), fails(openAs(rwc, "d/"), api.EISDIR), fails(openAs(w, "ld"), api.EISDIR), fails(openAs(w|cut, "/"), api.EISDIR), fails(openAs(rwc, "d/e/.."), api.EISDIR),
		fails(openAs(rwc, "new/"), api.EISDIR), fails(openAs(rwx, "new/."), api.EISDIR), fails(openAs(rwc, "d/new//"), api.EISDIR),
		fails(openAs(r, "new"), api.ENOENT), fails(openAs(rw|excl, "new"), api.ENOENT), fails(openAs(r, "new/"), api.ENOENT), fails(openAs(rwc, "no/x"), api.ENOENT), fails(openAs(rwx, "no/x/"), api.ENOENT),
		fails(openAs(rwc, "lx"), api.ENOENT), fails(openAs(r, "ln"), api.ENOENT), fails(openAs(rwc, ""), api.ENOENT), fails(openAs(rwc, "no/.."), api.ENOENT),
		fails(openAs(r, "d/f/"), api.ENOTDIR), fails(openAs(rwc, "d/f/"), api.ENOTDIR), fails(openAs(rwc, "d/f/x"), api.ENOTDIR), fails(openAs(rwx, "g/.."), api.ENOTDIR), fails(openAs(r, "l/"), api.ENOTDIR),
		fails(openAs(r, "lo"), api.ELOOP), fails(openAs(rwc, "lo"), api.ELOOP), fails(openAs(rwx, "lo/x"), api.ELOOP), fails(openAs(rwx, "lo/"), api.ELOOP),
		fails(openAs(rwc, strings.Repeat("x", 61)), api.ENAMETOOLONG), fails(openAs(rwc, strings.Repeat("/", 401)), api.ENAMETOOLONG), fails(openAs(rwc, "a\x00"), api.EINVAL),
	})
}

// TestOpened: P9.2: where a file is opened, what is in it, and what its descriptor may do.
func TestOpened(t *testing.T) {
	b := play(t, []step{
		{openAs(rw|api.FlagCut, "l"), api.Result{N: fdClosed}}, // all the file's descriptors see it
		{api.Call{Op: api.OpPread, Fd: fdRead, N: 9}, api.Result{}},
		{api.Call{Op: api.OpStat, A: "d/f"}, api.Result{T: api.Stat{Kind: api.File, Link: 2}}},
		{api.Call{Op: api.OpWrite, Fd: fdClosed, A: "new"}, api.Result{N: 3}},
		{api.Call{Op: api.OpRead, Fd: fdRead, N: 9}, api.Result{N: 3, S: "new"}},
		{api.Call{Op: api.OpRead, Fd: fdBoth, N: 9}, api.Result{N: 1, S: "w"}}, // it stands at 2 still
		{openAs(r|api.FlagCreate|api.FlagExcl, "n"), api.Result{N: 7}},
		fails(api.Call{Op: api.OpWrite, Fd: 7, A: "x"}, api.EBADF), // who makes a file may not write it therefore
		{openAs(w, "n"), api.Result{N: 8}},
		fails(api.Call{Op: api.OpRead, Fd: 8, N: 1}, api.EBADF),
		{api.Call{Op: api.OpWrite, Fd: 8, A: "x"}, api.Result{N: 1}},
		{api.Call{Op: api.OpRead, Fd: 7, N: 9}, api.Result{N: 1, S: "x"}},
		{openAs(rwc, "ln"), api.Result{N: 9}}, // it is made where the link leads
		{of(api.OpLstat, "nothing"), api.Result{T: api.Stat{Kind: api.File, Link: 1}}},
		{of(api.OpLstat, "ln"), api.Result{T: api.Stat{Kind: api.Link, Size: 7, Link: 1}}},
		{two(api.OpSymlink, "later/", "lt"), api.Result{}},
		{openAs(rwc, "lt"), api.Result{N: 10}}, // its own path is no directory's
		{of(api.OpStat, "later"), api.Result{T: api.Stat{Kind: api.File, Link: 1}}},
		{openAs(r, "g"), api.Result{N: 11}},
		{api.Call{Op: api.OpRead, Fd: 11, N: 9}, api.Result{N: 3, S: "new"}}, // each stands for itself
	})
	b.empty()
}

// TestEveryFlag: P9.2: OpOpen with each combination of flags, and unknown ones, on each path.
func TestEveryFlag(t *testing.T) {
	b := sample(t)
	flags := []int{64, 64 + r, 1<<32 + rw, -1, -64, -64 + rw, -64 + rwc, math.MinInt, math.MinInt + r, math.MaxInt}
	for flag := range 64 {
		flags = append(flags, flag)
	}
	for _, flag := range flags {
		for _, a := range paths() {
			if b.do(openAs(flag, a)).E == api.OK {
				b.do(api.Call{Op: api.OpWrite, Fd: fdClosed, A: "some"})
				b.do(api.Call{Op: api.OpSeek, Fd: fdClosed, Off: 1})
				b.do(api.Call{Op: api.OpRead, Fd: fdClosed, N: 2})
				b.do(api.Call{Op: api.OpWrite, Fd: fdClosed, A: "more"})
				b = sample(t)
			}
		}
	}
	b.empty()
}

// TestClose: P9.2: OpClose; a file without a name goes with its last descriptor.
func TestClose(t *testing.T) {
	b := play(t, []step{
		{on(api.OpClose, fdGone), api.Result{}}, fails(on(api.OpClose, fdGone), api.EBADF),
		{on(api.OpClose, fdNoDir), api.Result{}}, {on(api.OpClose, fdDir), api.Result{}}, fails(on(api.OpReaddir, fdDir), api.EBADF),
		{openAs(r, "g"), api.Result{N: fdDir}}, {openAs(r, "g"), api.Result{N: fdGone}},
		{on(api.OpClose, fdBoth), api.Result{}}, {on(api.OpClose, fdWrite), api.Result{}},
		{of(api.OpUnlink, "g"), api.Result{}}, {of(api.OpUnlink, "d/f"), api.Result{}},
		{on(api.OpClose, fdGone), api.Result{}}, {on(api.OpClose, fdRead), api.Result{}},
		{api.Call{Op: api.OpRead, Fd: fdDir, N: 9}, api.Result{N: 5, S: "hello"}},
	})
	if x := b.s.Branch(); x.Inodes() != 10 || x.Used() != 1 {
		t.Errorf("%d inodes, %d chunks", x.Inodes(), x.Used())
	}
	b.gives(on(api.OpClose, fdDir), api.Result{})
	if x := b.s.Branch(); x.Inodes() != 9 || x.Used() != 0 {
		t.Errorf("%d inodes, %d chunks", x.Inodes(), x.Used())
	}
	b.empty()
}

// TestRead: P9.2: OpRead and OpPread.
func TestRead(t *testing.T) {
	at := func(op, fd int, n, off int64) api.Call { return api.Call{Op: op, Fd: fd, N: n, Off: off} }
	b := play(t, []step{
		fails(at(api.OpRead, fdRead, -1, 0), api.EINVAL), fails(at(api.OpPread, fdRead, -1, 0), api.EINVAL), fails(at(api.OpPread, fdRead, 1, -1), api.EINVAL), fails(at(api.OpPread, fdRead, 0, -1), api.EINVAL),
		fails(at(api.OpRead, fdRead, math.MinInt64, 0), api.EINVAL), fails(at(api.OpPread, fdRead, -1<<32, 0), api.EINVAL), fails(at(api.OpPread, fdRead, 1, math.MinInt64), api.EINVAL),
		{at(api.OpRead, fdRead, 0, 0), api.Result{}}, {at(api.OpRead, fdRead, 2, 3), api.Result{N: 2, S: "he"}}, {at(api.OpRead, fdRead, 2, -1), api.Result{N: 2, S: "ll"}},
		{at(api.OpPread, fdRead, 3, 0), api.Result{N: 3, S: "hel"}}, {at(api.OpPread, fdRead, 9, 5), api.Result{}}, {at(api.OpPread, fdRead, 9, 6), api.Result{}}, {at(api.OpPread, fdRead, 0, 1), api.Result{}},
		{at(api.OpRead, fdRead, math.MaxInt64, 0), api.Result{N: 1, S: "o"}}, {at(api.OpRead, fdRead, 9, 0), api.Result{}},
		{at(api.OpRead, fdBoth, 1, 0), api.Result{N: 1, S: "l"}}, {at(api.OpPread, fdBoth, 1<<32, 3), api.Result{N: 2, S: "lo"}}, {at(api.OpPread, fdBoth, 9, math.MaxInt64), api.Result{}},
		{at(api.OpRead, fdGone, 9, 0), api.Result{}}, {at(api.OpPread, fdGone, 9, 1), api.Result{N: 3, S: "one"}},
	})
	b.empty()
}

// TestWrite: P9.2: OpWrite and OpPwrite, at the end of the file and elsewhere.
func TestWrite(t *testing.T) {
	at := func(op, fd int, a string, off int64) api.Call { return api.Call{Op: op, Fd: fd, A: a, Off: off} }
	told := func(s string) step {
		return step{api.Call{Op: api.OpPread, Fd: fdRead, N: 99}, api.Result{N: int64(len(s)), S: s}}
	}
	stands := func(fd int, off int64) step {
		return step{api.Call{Op: api.OpSeek, Fd: fd, Flag: 1}, api.Result{N: off}}
	}
	b := play(t, []step{
		fails(at(api.OpPwrite, fdBoth, "x", -1), api.EINVAL), fails(at(api.OpPwrite, fdBoth, "", -1), api.EINVAL), fails(at(api.OpPwrite, fdWrite, "x", math.MinInt64), api.EINVAL),
		{at(api.OpWrite, fdBoth, "LL", -1), api.Result{N: 2}}, told("heLLo"), stands(fdBoth, 4),
		{at(api.OpWrite, fdBoth, "", 9), api.Result{}}, stands(fdBoth, 4),
		{at(api.OpPwrite, fdBoth, "H", 0), api.Result{N: 1}}, told("HeLLo"), stands(fdBoth, 4),
		stands(fdWrite, 0), {at(api.OpWrite, fdWrite, "!", 0), api.Result{N: 1}}, told("HeLLo!"), stands(fdWrite, 6),
		{at(api.OpPwrite, fdWrite, "l", 2), api.Result{N: 1}}, told("HelLo!"), stands(fdWrite, 6), // not at the end
		{at(api.OpWrite, fdBoth, "o? Yes", 0), api.Result{N: 6}}, told("HelLo? Yes"), stands(fdBoth, 10),
		{at(api.OpWrite, fdWrite, "", 0), api.Result{}}, stands(fdWrite, 10), // after what was written at the end: nothing
		{at(api.OpWrite, fdWrite, ".", 0), api.Result{N: 1}}, told("HelLo? Yes."), stands(fdWrite, 11),
		{at(api.OpPwrite, fdBoth, "z", 13), api.Result{N: 1}}, told("HelLo? Yes.\x00\x00z"),
		{at(api.OpPwrite, fdBoth, "", 50), api.Result{}}, told("HelLo? Yes.\x00\x00z"),
		{api.Call{Op: api.OpSeek, Fd: fdGone, Off: 6}, api.Result{N: 6}}, {at(api.OpWrite, fdGone, "!", 0), api.Result{N: 1}}, stands(fdGone, 7),
		{api.Call{Op: api.OpPread, Fd: fdGone, N: 9}, api.Result{N: 7, S: "gone\x00\x00!"}},
		{at(api.OpPwrite, fdGone, "x\x00\xff/é", 0), api.Result{N: 6}}, {api.Call{Op: api.OpPread, Fd: fdGone, N: 6}, api.Result{N: 6, S: "x\x00\xff/é"}},
	})
	b.empty()
}

// TestFarWrites: P9.2: writes up to MaxFile and beyond: fewer bytes, or EFBIG; an empty one is none.
func TestFarWrites(t *testing.T) {
	at := func(fd int, a string, off int64) api.Call {
		return api.Call{Op: api.OpPwrite, Fd: fd, A: a, Off: off}
	}
	b := play(t, []step{
		fails(at(fdBoth, "x", api.MaxFile), api.EFBIG), fails(at(fdBoth, "x", api.MaxFile+1), api.EFBIG), fails(at(fdBoth, "x", api.MaxOff), api.EFBIG),
		fails(at(fdBoth, "x", api.MaxOff+1), api.EFBIG), fails(at(fdBoth, "x", math.MaxInt64), api.EFBIG), {at(fdBoth, "", math.MaxInt64), api.Result{}},
		{api.Call{Op: api.OpSeek, Off: api.MaxFile}, api.Result{N: api.MaxFile}}, fails(api.Call{Op: api.OpWrite, A: "x"}, api.EFBIG),
		{api.Call{Op: api.OpWrite}, api.Result{}}, {api.Call{Op: api.OpSeek, Flag: 1}, api.Result{N: api.MaxFile}},
		{at(fdBoth, "xyz", api.MaxFile-2), api.Result{N: 2}}, {of(api.OpStat, "g"), api.Result{T: api.Stat{Kind: api.File, Size: api.MaxFile, Link: 2}}},
		fails(api.Call{Op: api.OpWrite, Fd: fdWrite, A: "x"}, api.EFBIG), {api.Call{Op: api.OpSeek, Fd: fdWrite, Flag: 1}, api.Result{}},
		{api.Call{Op: api.OpWrite, Fd: fdWrite}, api.Result{}}, {api.Call{Op: api.OpSeek, Fd: fdWrite, Flag: 1}, api.Result{N: api.MaxFile}},
		{api.Call{Op: api.OpSeek, Off: api.MaxFile - 1}, api.Result{N: api.MaxFile - 1}}, {api.Call{Op: api.OpWrite, A: "abc"}, api.Result{N: 1}},
		{api.Call{Op: api.OpSeek, Flag: 1}, api.Result{N: api.MaxFile}}, {api.Call{Op: api.OpPread, N: 9, Off: api.MaxFile - 3}, api.Result{N: 3, S: "\x00xa"}},
		{api.Call{Op: api.OpSeek, Off: 1, Flag: 2}, api.Result{N: api.MaxFile + 1}},
	})
	b.empty()
}

// TestWholeFile: P9.2: a file of MaxFile bytes is written and read whole; a read has MaxFile bytes at most.
func TestWholeFile(t *testing.T) {
	text := strings.Repeat("0123456789abcdefghijklmnopqrstu", 2200) // more than MaxFile
	s := New(branch.New(api.MaxRoom))
	s.Do(openAs(rwc, "f"))
	if got := s.Do(api.Call{Op: api.OpWrite, A: text}); got != (api.Result{N: api.MaxFile}) {
		t.Fatalf("Write: %s", shortly(got))
	}
	for _, n := range []int64{api.MaxFile - 1, api.MaxFile, api.MaxFile + 1, api.MaxOff, api.MaxOff + 1, math.MaxInt32 + 1, 1 << 32, math.MaxInt64} {
		m := min(n, api.MaxFile)
		if got := s.Do(api.Call{Op: api.OpPread, N: n}); got != (api.Result{N: m, S: text[:m]}) {
			t.Errorf("Pread %d: %s", n, shortly(got))
		}
		s.Do(api.Call{Op: api.OpSeek})
		if got := s.Do(api.Call{Op: api.OpRead, N: n}); got != (api.Result{N: m, S: text[:m]}) {
			t.Errorf("Read %d: %s", n, shortly(got))
		}
		if got := s.Do(api.Call{Op: api.OpSeek, Flag: 1}); got != (api.Result{N: m}) {
			t.Errorf("Read %d: then it stands at %s", n, shortly(got))
		}
	}
}

// TestSeek: P9.2: OpSeek from each origin.
func TestSeek(t *testing.T) {
	to := func(fd, flag int, off int64) api.Call { return api.Call{Op: api.OpSeek, Fd: fd, Flag: flag, Off: off} }
	gives := func(fd, flag int, off, n int64) step { return step{to(fd, flag, off), api.Result{N: n}} }
	b := play(t, []step{
		fails(to(fdBoth, 3, 0), api.EINVAL), fails(to(fdBoth, -1, 0), api.EINVAL), fails(to(fdBoth, 4, 0), api.EINVAL), fails(to(fdBoth, math.MaxInt, 0), api.EINVAL), fails(to(fdBoth, 1<<32, 0), api.EINVAL),
		fails(to(fdBoth, 0, -1), api.EINVAL), fails(to(fdBoth, 1, -3), api.EINVAL), fails(to(fdBoth, 2, -6), api.EINVAL),
		fails(to(fdBoth, 0, math.MinInt64), api.EINVAL), fails(to(fdBoth, 1, math.MinInt64), api.EINVAL), fails(to(fdBoth, 2, math.MinInt64), api.EINVAL),
		fails(to(fdBoth, 0, api.MaxOff+1), api.EINVAL), fails(to(fdBoth, 1, api.MaxOff-1), api.EINVAL), fails(to(fdBoth, 2, api.MaxOff-4), api.EINVAL),
		fails(to(fdBoth, 0, math.MaxInt64), api.EINVAL), fails(to(fdBoth, 1, math.MaxInt64), api.EINVAL), fails(to(fdBoth, 2, math.MaxInt64), api.EINVAL), fails(to(fdBoth, 2, math.MaxInt64-4), api.EINVAL),
		gives(fdBoth, 1, 0, 2), gives(fdBoth, 1, -2, 0), gives(fdBoth, 1, 5, 5), gives(fdBoth, 1, -1, 4), gives(fdBoth, 0, 3, 3), gives(fdBoth, 0, 0, 0),
		gives(fdBoth, 2, 0, 5), gives(fdBoth, 2, -5, 0), gives(fdBoth, 2, 1, 6), gives(fdBoth, 2, api.MaxOff-5, api.MaxOff), fails(to(fdBoth, 1, 1), api.EINVAL),
		gives(fdBoth, 1, -1, api.MaxOff-1), gives(fdBoth, 1, 1, api.MaxOff), gives(fdBoth, 1, -api.MaxOff, 0), gives(fdBoth, 1, api.MaxOff, api.MaxOff), gives(fdBoth, 0, api.MaxOff, api.MaxOff),
		fails(to(fdBoth, 1, math.MaxInt64), api.EINVAL), fails(to(fdBoth, 1, math.MinInt64), api.EINVAL), fails(to(fdBoth, 1, -api.MaxOff-1), api.EINVAL), gives(fdBoth, 1, 0, api.MaxOff),
		{api.Call{Op: api.OpRead, N: 9}, api.Result{}}, fails(api.Call{Op: api.OpWrite, A: "x"}, api.EFBIG),
		gives(fdRead, 2, -1, 4), {api.Call{Op: api.OpRead, Fd: fdRead, N: 9}, api.Result{N: 1, S: "o"}},
		gives(fdWrite, 0, 3, 3), {api.Call{Op: api.OpWrite, Fd: fdWrite, A: "!"}, api.Result{N: 1}}, gives(fdWrite, 1, 0, 6),
		{api.Call{Op: api.OpCut, A: "g", Off: 100}, api.Result{}}, gives(fdRead, 2, 0, 100), gives(fdGone, 2, 0, 4), gives(fdGone, 2, -4, 0),
	})
	b.empty()
}

// TestNumbers: P9.2: N, Off and Flag at and beyond their bounds, with each Op that has a descriptor, on each descriptor.
func TestNumbers(t *testing.T) {
	b := sample(t)
	numbers := []int64{
		math.MinInt64, math.MinInt64 + 1, -1 << 40, -1<<32 + 1, -65536, -6, -1, 0, 1, 4, 5, 6, 16, 65535, 65536, 65537,
		1<<31 - 1, 1 << 31, 1 << 32, 1<<32 + 1, 1<<40 - 1, 1 << 40, 1<<40 + 1, math.MaxInt64 - 1, math.MaxInt64,
	}
	for _, fd := range []int{-1, fdBoth, fdRead, fdWrite, fdDir, fdGone, fdNoDir, fdClosed} {
		for _, x := range numbers {
			b.do(api.Call{Op: api.OpSeek, Fd: fd, Off: 3})
			b.do(api.Call{Op: api.OpRead, Fd: fd, N: x})
			b.do(api.Call{Op: api.OpWrite, Fd: fd, N: x, Off: x, A: "ab"})
			b.do(api.Call{Op: api.OpRead, Fd: fd, N: 2, Off: x})
			b.do(api.Call{Op: api.OpPread, Fd: fd, N: 4, Off: x})
			b.do(api.Call{Op: api.OpPwrite, Fd: fd, A: "xyz", Off: x})
			b.do(api.Call{Op: api.OpPwrite, Fd: fd, Off: x})
			b.do(api.Call{Op: api.OpCut, A: "g", Off: x})
			for flag := -1; flag <= 3; flag++ {
				b.do(api.Call{Op: api.OpSeek, Fd: fd, Off: x, Flag: flag})
				b.do(api.Call{Op: api.OpSeek, Fd: fd, Off: -2, Flag: 1})
			}
			b.do(api.Call{Op: api.OpCut, A: "g", Off: 5})
		}
	}
	b.empty()
}

// TestCut: P9.2: OpCut.
func TestCut(t *testing.T) {
	cut := func(a string, off int64) api.Call { return api.Call{Op: api.OpCut, A: a, Off: off} }
	apart(t, []step{
		{cut("d/f", 3), api.Result{}}, {cut("l", 0), api.Result{}}, {cut("ld/f", 9), api.Result{}}, {cut("la", api.MaxFile), api.Result{}}, {cut("g", 5), api.Result{}},
		fails(cut("d", 3), api.EISDIR), fails(cut("d", -1), api.EISDIR), fails(cut("/", api.MaxOff), api.EISDIR), fails(cut("ld/", 3), api.EISDIR),
		fails(cut("g", -1), api.EINVAL), fails(cut("l", math.MinInt64), api.EINVAL), fails(cut("g", api.MaxFile+1), api.EFBIG), fails(cut("g", math.MaxInt64), api.EFBIG), fails(cut("g", 1<<32), api.EFBIG),
		fails(cut("", -1), api.ENOENT), fails(cut("no", -1), api.ENOENT), fails(cut("ln", 1), api.ENOENT), fails(cut("g/", 1), api.ENOTDIR), fails(cut("l/", 1), api.ENOTDIR), fails(cut("g/x", 1), api.ENOTDIR),
		fails(cut("lo", 1), api.ELOOP), fails(cut("a\x00", 1), api.EINVAL), fails(cut(strings.Repeat("x", 61), 1), api.ENAMETOOLONG),
	})
	b := play(t, []step{
		{cut("g", 3), api.Result{}}, {api.Call{Op: api.OpRead, Fd: fdBoth, N: 9}, api.Result{N: 1, S: "l"}},
		{cut("l", 7), api.Result{}}, {api.Call{Op: api.OpRead, Fd: fdBoth, N: 9}, api.Result{N: 4, S: "\x00\x00\x00\x00"}},
		{cut("g", 1), api.Result{}}, {api.Call{Op: api.OpSeek, Fd: fdBoth, Flag: 1}, api.Result{N: 7}}, {api.Call{Op: api.OpRead, Fd: fdBoth, N: 9}, api.Result{}},
		{api.Call{Op: api.OpWrite, Fd: fdBoth, A: "x"}, api.Result{N: 1}}, {api.Call{Op: api.OpPread, Fd: fdRead, N: 9}, api.Result{N: 8, S: "h\x00\x00\x00\x00\x00\x00x"}},
	})
	b.empty()
}

// TestStat: P9.2: OpStat and OpLstat.
func TestStat(t *testing.T) {
	is := func(op int, a string, kind, size, link int) step {
		return step{of(op, a), api.Result{T: api.Stat{Kind: kind, Size: size, Link: link}}}
	}
	b := play(t, []step{
		is(api.OpStat, "/", api.Dir, 8, 1), is(api.OpLstat, "..", api.Dir, 8, 1), is(api.OpStat, "d", api.Dir, 2, 1), is(api.OpStat, "d/e/", api.Dir, 0, 1), is(api.OpLstat, "d/e/..", api.Dir, 2, 1),
		is(api.OpStat, "g", api.File, 5, 2), is(api.OpLstat, "d/f", api.File, 5, 2), is(api.OpStat, "l", api.File, 5, 2), is(api.OpLstat, "l", api.Link, 3, 1), is(api.OpStat, "la", api.File, 5, 2),
		is(api.OpLstat, "ld", api.Link, 1, 1), is(api.OpStat, "ld", api.Dir, 2, 1), is(api.OpLstat, "ld/", api.Dir, 2, 1), is(api.OpLstat, "ld/f", api.File, 5, 2),
		is(api.OpLstat, "ln", api.Link, 7, 1), is(api.OpLstat, "lo", api.Link, 2, 1),
		fails(of(api.OpStat, "ln"), api.ENOENT), fails(of(api.OpStat, "lo"), api.ELOOP), fails(of(api.OpLstat, "lo/"), api.ELOOP), fails(of(api.OpLstat, "lo/x"), api.ELOOP), fails(of(api.OpStat, "lx"), api.ENOENT),
		fails(of(api.OpStat, ""), api.ENOENT), fails(of(api.OpLstat, ""), api.ENOENT), fails(of(api.OpStat, "no"), api.ENOENT), fails(of(api.OpLstat, "d/no"), api.ENOENT), fails(of(api.OpLstat, "no/.."), api.ENOENT),
		fails(of(api.OpStat, "g/"), api.ENOTDIR), fails(of(api.OpLstat, "l/"), api.ENOTDIR), fails(of(api.OpLstat, "g/.."), api.ENOTDIR),
		fails(of(api.OpStat, "\x00"), api.EINVAL), fails(of(api.OpLstat, strings.Repeat("a", 61)), api.ENAMETOOLONG), fails(of(api.OpStat, strings.Repeat("a/", 41)), api.ENAMETOOLONG),
	})
	b.empty()
}

// TestMkdir: P9.2: OpMkdir.
func TestMkdir(t *testing.T) {
	apart(t, []step{
		{of(api.OpMkdir, "new"), api.Result{}}, {of(api.OpMkdir, "/new/"), api.Result{}}, {of(api.OpMkdir, "d/new/."), api.Result{}}, {of(api.OpMkdir, "ld/new"), api.Result{}}, {of(api.OpMkdir, "ld/../new"), api.Result{}}, {of(api.OpMkdir, "nothing"), api.Result{}},
		fails(of(api.OpMkdir, "/"), api.EEXIST), fails(of(api.OpMkdir, ".."), api.EEXIST), fails(of(api.OpMkdir, "."), api.EEXIST), fails(of(api.OpMkdir, "no/.."), api.EEXIST), fails(of(api.OpMkdir, "g/.."), api.EEXIST),
		fails(of(api.OpMkdir, "d"), api.EEXIST), fails(of(api.OpMkdir, "d/e/"), api.EEXIST), fails(of(api.OpMkdir, "g"), api.EEXIST), fails(of(api.OpMkdir, "g/"), api.EEXIST), fails(of(api.OpMkdir, "l"), api.EEXIST), fails(of(api.OpMkdir, "ln"), api.EEXIST), fails(of(api.OpMkdir, "ln/"), api.EEXIST), fails(of(api.OpMkdir, "lo"), api.EEXIST),
		fails(of(api.OpMkdir, ""), api.ENOENT), fails(of(api.OpMkdir, "no/x"), api.ENOENT), fails(of(api.OpMkdir, "lx/x"), api.ENOENT), fails(of(api.OpMkdir, "no/../x"), api.ENOENT),
		fails(of(api.OpMkdir, "g/x"), api.ENOTDIR), fails(of(api.OpMkdir, "l/x"), api.ENOTDIR), fails(of(api.OpMkdir, "g/../x"), api.ENOTDIR), fails(of(api.OpMkdir, "lo/x"), api.ELOOP),
		fails(of(api.OpMkdir, "a\x00"), api.EINVAL), fails(of(api.OpMkdir, strings.Repeat("a", 61)), api.ENAMETOOLONG), fails(of(api.OpMkdir, strings.Repeat("/", 401)), api.ENAMETOOLONG),
	})
	b := sample(t)
	b.gives(of(api.OpMkdir, "d/new/"), api.Result{})
	b.gives(of(api.OpLstat, "d/new"), api.Result{T: api.Stat{Kind: api.Dir, Link: 1}})
	b.gives(of(api.OpMkdir, "d/new/x"), api.Result{})
	b.gives(of(api.OpStat, "d/new/x/../../new"), api.Result{T: api.Stat{Kind: api.Dir, Size: 1, Link: 1}})
	b.empty()
}

// TestSymlink: P9.2: OpSymlink: the target's errors come first, then those of the new name.
func TestSymlink(t *testing.T) {
	long := strings.Repeat("x", 401)
	link := func(a, b string) api.Call { return two(api.OpSymlink, a, b) }
	apart(t, []step{
		{link("d", "new"), api.Result{}}, {link("/", "d/new"), api.Result{}}, {link("new", "new"), api.Result{}}, {link(long[:400], "new"), api.Result{}}, {link(strings.Repeat("a", 61), "/new"), api.Result{}}, {link("//", "ld/new"), api.Result{}}, {link("\xff\n", "nothing"), api.Result{}},
		fails(link("", "new"), api.ENOENT), fails(link("", "d"), api.ENOENT), fails(link("", "/"), api.ENOENT), fails(link("", "g/x"), api.ENOENT),
		fails(link(long, "new"), api.ENAMETOOLONG), fails(link(long, ""), api.ENAMETOOLONG), fails(link("\x00"+long, "d"), api.ENAMETOOLONG),
		fails(link("a\x00", "new"), api.EINVAL), fails(link("\x00", ""), api.EINVAL), fails(link("\x00", "d"), api.EINVAL),
		fails(link("x", ""), api.ENOENT), fails(link("x", long), api.ENAMETOOLONG), fails(link("x", "a\x00"), api.EINVAL), fails(link("x", "/"), api.EEXIST), fails(link("x", "no/.."), api.EEXIST), fails(link("x", "."), api.EEXIST),
		fails(link("x", "no/x"), api.ENOENT), fails(link("x", "g/x"), api.ENOTDIR), fails(link("x", "g/x/"), api.ENOTDIR), fails(link("x", "lo/x"), api.ELOOP), fails(link("x", "lo/x/"), api.ELOOP),
		fails(link("x", "new/"), api.ENOENT), fails(link("x", "d/"), api.ENOENT), fails(link("x", "g/."), api.ENOENT), fails(link("x", "l/"), api.ENOENT),
		fails(link("x", "d"), api.EEXIST), fails(link("x", "g"), api.EEXIST), fails(link("x", "l"), api.EEXIST), fails(link("x", "ln"), api.EEXIST), fails(link("x", "lo"), api.EEXIST),
	})
	b := sample(t)
	b.gives(link("../d//f", "d/new"), api.Result{})
	b.gives(of(api.OpReadlink, "d/new"), api.Result{N: 7, S: "../d//f"})
	b.gives(of(api.OpLstat, "d/new"), api.Result{T: api.Stat{Kind: api.Link, Size: 7, Link: 1}})
	b.gives(of(api.OpStat, "d/new"), api.Result{T: api.Stat{Kind: api.File, Size: 5, Link: 2}})
	b.empty()
}

// TestRmdir: P9.2: OpRmdir.
func TestRmdir(t *testing.T) {
	apart(t, []step{
		{of(api.OpRmdir, "d/e"), api.Result{}}, {of(api.OpRmdir, "d/e/"), api.Result{}}, {of(api.OpRmdir, "ld/e"), api.Result{}}, {of(api.OpRmdir, "/d/e/../e/."), api.Result{}},
		fails(of(api.OpRmdir, "/"), api.EBUSY), fails(of(api.OpRmdir, "."), api.EBUSY), fails(of(api.OpRmdir, "d/e/.."), api.EBUSY), fails(of(api.OpRmdir, "no/.."), api.EBUSY), fails(of(api.OpRmdir, "g/.."), api.EBUSY),
		fails(of(api.OpRmdir, ""), api.ENOENT), fails(of(api.OpRmdir, "no"), api.ENOENT), fails(of(api.OpRmdir, "no/"), api.ENOENT), fails(of(api.OpRmdir, "no/x"), api.ENOENT),
		fails(of(api.OpRmdir, "g"), api.ENOTDIR), fails(of(api.OpRmdir, "g/"), api.ENOTDIR), fails(of(api.OpRmdir, "ld"), api.ENOTDIR), fails(of(api.OpRmdir, "ld/"), api.ENOTDIR), fails(of(api.OpRmdir, "ln/"), api.ENOTDIR), fails(of(api.OpRmdir, "g/x"), api.ENOTDIR),
		fails(of(api.OpRmdir, "d"), api.ENOTEMPTY), fails(of(api.OpRmdir, "d/"), api.ENOTEMPTY), fails(of(api.OpRmdir, "lo/x"), api.ELOOP),
		fails(of(api.OpRmdir, "a\x00"), api.EINVAL), fails(of(api.OpRmdir, strings.Repeat("a", 61)), api.ENAMETOOLONG),
	})
}

// TestUnlink: P9.2: OpUnlink.
func TestUnlink(t *testing.T) {
	apart(t, []step{
		{of(api.OpUnlink, "d/f"), api.Result{}}, {of(api.OpUnlink, "g"), api.Result{}}, {of(api.OpUnlink, "ld/f"), api.Result{}}, {of(api.OpUnlink, "l"), api.Result{}}, {of(api.OpUnlink, "ld"), api.Result{}}, {of(api.OpUnlink, "ln"), api.Result{}}, {of(api.OpUnlink, "lo"), api.Result{}},
		fails(of(api.OpUnlink, "/"), api.EISDIR), fails(of(api.OpUnlink, "."), api.EISDIR), fails(of(api.OpUnlink, "d/.."), api.EISDIR), fails(of(api.OpUnlink, "no/.."), api.EISDIR), fails(of(api.OpUnlink, "g/.."), api.EISDIR),
		fails(of(api.OpUnlink, "d"), api.EISDIR), fails(of(api.OpUnlink, "d/"), api.EISDIR), fails(of(api.OpUnlink, "d/e"), api.EISDIR), fails(of(api.OpUnlink, "d/e/."), api.EISDIR),
		fails(of(api.OpUnlink, ""), api.ENOENT), fails(of(api.OpUnlink, "no"), api.ENOENT), fails(of(api.OpUnlink, "no/"), api.ENOENT), fails(of(api.OpUnlink, "no/x"), api.ENOENT), fails(of(api.OpUnlink, "no/x/"), api.ENOENT), fails(of(api.OpUnlink, "nothing"), api.ENOENT),
		fails(of(api.OpUnlink, "g/"), api.ENOTDIR), fails(of(api.OpUnlink, "l/"), api.ENOTDIR), fails(of(api.OpUnlink, "ld/"), api.ENOTDIR), fails(of(api.OpUnlink, "ln/"), api.ENOTDIR), fails(of(api.OpUnlink, "lo/"), api.ENOTDIR), fails(of(api.OpUnlink, "g/x"), api.ENOTDIR),
		fails(of(api.OpUnlink, "lo/x"), api.ELOOP), fails(of(api.OpUnlink, "\x00"), api.EINVAL), fails(of(api.OpUnlink, strings.Repeat("a", 61)), api.ENAMETOOLONG),
	})
}

// TestLink: P9.2: OpLink: what is there comes first, then the new name.
func TestLink(t *testing.T) {
	link := func(a, b string) api.Call { return two(api.OpLink, a, b) }
	apart(t, []step{
		{link("d/f", "new"), api.Result{}}, {link("g", "d/new"), api.Result{}}, {link("l", "new"), api.Result{}}, {link("ln", "ld/new"), api.Result{}}, {link("lo", "/new"), api.Result{}}, {link("ld", "nothing"), api.Result{}},
		fails(link("d", "new"), api.EPERM), fails(link("/", ""), api.EPERM), fails(link("d/e/", "d"), api.EPERM), fails(link("..", "no/x"), api.EPERM), fails(link("ld/", "/"), api.EPERM), fails(link("d/e", "new/"), api.EPERM),
		fails(link("", ""), api.ENOENT), fails(link("no", "d"), api.ENOENT), fails(link("no/x", "/"), api.ENOENT), fails(link("g/", "/"), api.ENOTDIR), fails(link("g/x", "d"), api.ENOTDIR), fails(link("l/", "new"), api.ENOTDIR), fails(link("lo/", "d"), api.ELOOP), fails(link("\x00", ""), api.EINVAL), fails(link("ln/", "new"), api.ENOENT),
		fails(link("g", ""), api.ENOENT), fails(link("g", "\x00"), api.EINVAL), fails(link("g", "/"), api.EEXIST), fails(link("g", ".."), api.EEXIST), fails(link("g", "no/.."), api.EEXIST), fails(link("g", "no/x"), api.ENOENT), fails(link("g", "l/x"), api.ENOTDIR), fails(link("g", "l/x/"), api.ENOTDIR), fails(link("g", "lo/x"), api.ELOOP),
		fails(link("g", "new/"), api.ENOENT), fails(link("g", "d/"), api.ENOENT), fails(link("g", "d/f/."), api.ENOENT), fails(link("g", "g/"), api.ENOENT),
		fails(link("g", "d"), api.EEXIST), fails(link("g", "g"), api.EEXIST), fails(link("g", "d/f"), api.EEXIST), fails(link("g", "ln"), api.EEXIST), fails(link("g", "l"), api.EEXIST), fails(link("l", "l"), api.EEXIST),
		fails(link("g", strings.Repeat("a", 61)), api.ENAMETOOLONG),
	})
	b := play(t, []step{
		{link("l", "d/l2"), api.Result{}}, {of(api.OpLstat, "l"), api.Result{T: api.Stat{Kind: api.Link, Size: 3, Link: 2}}},
		{of(api.OpReadlink, "d/l2"), api.Result{N: 3, S: "d/f"}}, fails(of(api.OpStat, "d/l2"), api.ENOENT),
		{link("g", "d/e/new"), api.Result{}}, {of(api.OpStat, "g"), api.Result{T: api.Stat{Kind: api.File, Size: 5, Link: 3}}},
		{openAs(w, "d/e/new"), api.Result{N: fdClosed}}, {api.Call{Op: api.OpWrite, Fd: fdClosed, A: "J"}, api.Result{N: 1}}, {api.Call{Op: api.OpPread, Fd: fdRead, N: 9}, api.Result{N: 5, S: "Jello"}},
	})
	b.empty()
}

// TestManyNames: P9.2: OpLink up to MaxLink names: EMLINK comes last.
func TestManyNames(t *testing.T) {
	for _, a := range []string{"g", "l"} {
		b := sample(t)
		for n := b.do(of(api.OpLstat, a)).T.Link; n < api.MaxLink; n++ {
			b.gives(two(api.OpLink, a, "d/n"+strconv.Itoa(n)), api.Result{})
		}
		b.gives(two(api.OpLink, a, "new"), api.Result{E: api.EMLINK})
		b.gives(two(api.OpLink, a, "d"), api.Result{E: api.EEXIST})
		b.gives(two(api.OpLink, a, "new/"), api.Result{E: api.ENOENT})
		b.gives(two(api.OpRename, a, "new"), api.Result{})
		b.gives(of(api.OpUnlink, "d/n19"), api.Result{})
		b.gives(two(api.OpLink, "new", a), api.Result{})
		b.gives(of(api.OpLstat, a), api.Result{T: b.do(of(api.OpLstat, "new")).T})
		b.empty()
	}
}

// TestReadlink: P9.2: OpReadlink.
func TestReadlink(t *testing.T) {
	b := play(t, []step{
		{of(api.OpReadlink, "l"), api.Result{N: 3, S: "d/f"}}, {of(api.OpReadlink, "/ld"), api.Result{N: 1, S: "d"}}, {of(api.OpReadlink, "ld/../la"), api.Result{N: 11, S: "/d/./e/../f"}},
		{of(api.OpReadlink, "ln"), api.Result{N: 7, S: "nothing"}}, {of(api.OpReadlink, "lo"), api.Result{N: 2, S: "lo"}},
		fails(of(api.OpReadlink, "g"), api.EINVAL), fails(of(api.OpReadlink, "d"), api.EINVAL), fails(of(api.OpReadlink, "ld/"), api.EINVAL), fails(of(api.OpReadlink, "/"), api.EINVAL), fails(of(api.OpReadlink, "d/.."), api.EINVAL),
		fails(of(api.OpReadlink, ""), api.ENOENT), fails(of(api.OpReadlink, "no"), api.ENOENT), fails(of(api.OpReadlink, "ln/"), api.ENOENT), fails(of(api.OpReadlink, "l/"), api.ENOTDIR), fails(of(api.OpReadlink, "g/x"), api.ENOTDIR), fails(of(api.OpReadlink, "g/"), api.ENOTDIR),
		fails(of(api.OpReadlink, "lo/"), api.ELOOP), fails(of(api.OpReadlink, "\x00"), api.EINVAL), fails(of(api.OpReadlink, strings.Repeat("/", 401)), api.ENAMETOOLONG),
		{two(api.OpSymlink, strings.Repeat("x", 400), "new"), api.Result{}}, {of(api.OpReadlink, "new"), api.Result{N: 400, S: strings.Repeat("x", 400)}}, fails(of(api.OpStat, "new"), api.ENAMETOOLONG),
	})
	b.empty()
}

// TestRename: P9.2: OpRename: both places come first, then the old name, then what it is.
func TestRename(t *testing.T) {
	move := func(a, b string) api.Call { return two(api.OpRename, a, b) }
	apart(t, []step{
		{move("g", "new"), api.Result{}}, {move("g", "d/e/new"), api.Result{}}, {move("d", "new"), api.Result{}}, {move("d", "new/"), api.Result{}}, {move("d/", "new"), api.Result{}}, {move("d/e/", "e/."), api.Result{}}, {move("ld/f", "ld/e/f"), api.Result{}},
		{move("l", "new"), api.Result{}}, {move("ld", "d/new"), api.Result{}}, {move("lo", "lx"), api.Result{}}, {move("g", "ln"), api.Result{}}, {move("l", "d/f"), api.Result{}}, {move("g", "l"), api.Result{}},
		{move("g", "g"), api.Result{}}, {move("g", "d/f"), api.Result{}}, {move("d", "d"), api.Result{}}, {move("d/", "d/"), api.Result{}}, {move("d/e", "ld/e"), api.Result{}}, {move("l", "l"), api.Result{}},
		fails(move("/", "new"), api.EBUSY), fails(move("/", ""), api.EBUSY), fails(move("d/..", "\x00"), api.EBUSY), fails(move("no/..", "/"), api.EBUSY), fails(move(".", "new"), api.EBUSY),
		fails(move("g", "/"), api.EBUSY), fails(move("no", "/"), api.EBUSY), fails(move("d", ".."), api.EBUSY), fails(move("no", "no/.."), api.EBUSY), fails(move("g/", "."), api.EBUSY),
		fails(move("", "/"), api.ENOENT), fails(move("no/x", "/"), api.ENOENT), fails(move("g/x", "/"), api.ENOTDIR), fails(move("lo/x", "/"), api.ELOOP), fails(move("\x00", "/"), api.EINVAL), fails(move(strings.Repeat("a", 61), "/"), api.ENAMETOOLONG),
		fails(move("no", ""), api.ENOENT), fails(move("no", "\x00"), api.EINVAL), fails(move("no", "g/x"), api.ENOTDIR), fails(move("no", "lo/x"), api.ELOOP), fails(move("g/", "no/x"), api.ENOENT), fails(move("g", strings.Repeat("a", 61)), api.ENAMETOOLONG),
		fails(move("no", "new"), api.ENOENT), fails(move("no/", "new/"), api.ENOENT), fails(move("no", "d"), api.ENOENT), fails(move("no", "no"), api.ENOENT), fails(move("d/no", "d"), api.ENOENT),
		fails(move("g/", "new"), api.ENOTDIR), fails(move("g", "new/"), api.ENOTDIR), fails(move("g", "d/"), api.ENOTDIR), fails(move("g/", "d"), api.ENOTDIR), fails(move("ld/", "new"), api.ENOTDIR), fails(move("ld", "new/"), api.ENOTDIR), fails(move("g", "g/"), api.ENOTDIR), fails(move("l/", "l"), api.ENOTDIR),
		fails(move("d", "d/new"), api.EINVAL), fails(move("d", "d/e/new"), api.EINVAL), fails(move("d", "ld/e"), api.EINVAL), fails(move("d/", "d/f"), api.EINVAL), fails(move("d/e", "d/e/x"), api.EINVAL), fails(move("d", "d/e/"), api.EINVAL),
		fails(move("g", "d"), api.EISDIR), fails(move("l", "d/e"), api.EISDIR), fails(move("d", "g"), api.ENOTDIR), fails(move("d/e", "ld"), api.ENOTDIR), fails(move("d", "g/"), api.ENOTDIR), fails(move("d", "ln/"), api.ENOTDIR),
		fails(move("d/e", "d"), api.ENOTEMPTY), fails(move("d/e/", "d/"), api.ENOTEMPTY),
	})
	b := play(t, []step{
		{move("d/e", "e"), api.Result{}}, {of(api.OpMkdir, "e2"), api.Result{}}, {move("e", "e2"), api.Result{}}, fails(of(api.OpStat, "e"), api.ENOENT), {of(api.OpMkdir, "e2/x"), api.Result{}},
		fails(move("d", "e2"), api.ENOTEMPTY), {move("d", "e2/x"), api.Result{}}, {of(api.OpStat, "e2/x/f"), api.Result{T: api.Stat{Kind: api.File, Size: 5, Link: 2}}},
		{of(api.OpStat, "e2/x/.."), api.Result{T: api.Stat{Kind: api.Dir, Size: 1, Link: 1}}}, fails(move("e2", "e2/x/y"), api.EINVAL), {move("e2/x/f", "g"), api.Result{}},
		{of(api.OpLstat, "g"), api.Result{T: api.Stat{Kind: api.File, Size: 5, Link: 2}}}, {api.Call{Op: api.OpPread, Fd: fdRead, N: 9}, api.Result{N: 5, S: "hello"}},
		{openAs(rwx, "h"), api.Result{N: fdClosed}}, {api.Call{Op: api.OpWrite, Fd: fdClosed, A: "other"}, api.Result{N: 5}}, {move("h", "g"), api.Result{}}, {move("g", "e2/x/f"), api.Result{}},
		{api.Call{Op: api.OpPread, Fd: fdRead, N: 9}, api.Result{N: 5, S: "hello"}}, {of(api.OpLstat, "e2/x/f"), api.Result{T: api.Stat{Kind: api.File, Size: 5, Link: 1}}},
	})
	b.empty()
}

// TestOpendir: P9.2: OpOpendir, OpReaddir and OpRewind.
func TestOpendir(t *testing.T) {
	ok := api.Result{N: fdClosed}
	apart(t, []step{
		{of(api.OpOpendir, "/"), ok}, {of(api.OpOpendir, "d"), ok}, {of(api.OpOpendir, "d/e/"), ok}, {of(api.OpOpendir, "ld"), ok}, {of(api.OpOpendir, ".."), ok}, {of(api.OpOpendir, "ld/e/.."), ok},
		fails(of(api.OpOpendir, "g"), api.ENOTDIR), fails(of(api.OpOpendir, "g/"), api.ENOTDIR), fails(of(api.OpOpendir, "l"), api.ENOTDIR), fails(of(api.OpOpendir, "d/f/x"), api.ENOTDIR),
		fails(of(api.OpOpendir, ""), api.ENOENT), fails(of(api.OpOpendir, "no"), api.ENOENT), fails(of(api.OpOpendir, "ln"), api.ENOENT), fails(of(api.OpOpendir, "no/.."), api.ENOENT), fails(of(api.OpOpendir, "lo"), api.ELOOP), fails(of(api.OpOpendir, "\x00"), api.EINVAL), fails(of(api.OpOpendir, strings.Repeat("a", 61)), api.ENAMETOOLONG),
	})
	name := func(fd int, s string) step { return step{on(api.OpReaddir, fd), api.Result{N: 1, S: s}} }
	end := func(fd int) step { return step{on(api.OpReaddir, fd), api.Result{}} }
	b := play(t, []step{
		{of(api.OpOpendir, "/"), ok}, name(6, "d"), name(6, "g"), name(6, "l"), name(6, "la"), name(6, "ld"), name(6, "ln"), name(6, "lo"), name(6, "lx"), end(6), end(6),
		name(fdDir, "f"), end(fdDir), end(fdDir), {on(api.OpRewind, fdDir), api.Result{}}, name(fdDir, "e"), {on(api.OpRewind, fdDir), api.Result{}}, name(fdDir, "e"), name(fdDir, "f"), end(fdDir),
		{of(api.OpOpendir, "d"), api.Result{N: 7}}, name(7, "e"), {of(api.OpOpendir, "d/e"), api.Result{N: 8}}, end(8), end(8), {on(api.OpRewind, 8), api.Result{}}, end(8), name(7, "f"), end(7),
		end(fdNoDir), {on(api.OpRewind, fdNoDir), api.Result{}}, end(fdNoDir), {on(api.OpRewind, 6), api.Result{}}, name(6, "d"), {on(api.OpClose, 6), api.Result{}}, fails(on(api.OpReaddir, 6), api.EBADF), fails(on(api.OpRewind, 6), api.EBADF),
	})
	b.empty()
}

// TestDirChanges: P9.3: a directory's descriptor tells the names of its opening, or rewinding, whatever becomes of them.
func TestDirChanges(t *testing.T) {
	name := func(s string) step { return step{on(api.OpReaddir, fdDir), api.Result{N: 1, S: s}} }
	end := step{on(api.OpReaddir, fdDir), api.Result{}}
	rewind := step{on(api.OpRewind, fdDir), api.Result{}}
	ok := func(c api.Call) step { return step{c, api.Result{}} }
	b := play(t, []step{
		rewind, ok(of(api.OpMkdir, "d/a")), ok(of(api.OpMkdir, "d/z")), ok(of(api.OpMkdir, "d/eb")), ok(of(api.OpRmdir, "d/e")), ok(of(api.OpUnlink, "d/f")),
		name("e"), name("f"), end, ok(of(api.OpMkdir, "d/zz")), end,
		rewind, name("a"), name("eb"), ok(two(api.OpRename, "d/z", "d/c")), ok(of(api.OpRmdir, "d/zz")), name("z"), name("zz"), end, end,
		rewind, name("a"), ok(two(api.OpRename, "d", "moved")), name("c"), name("eb"), end, ok(of(api.OpMkdir, "moved/new")), rewind, name("a"),
		ok(of(api.OpRmdir, "moved/a")), ok(of(api.OpRmdir, "moved/c")), ok(of(api.OpRmdir, "moved/eb")), ok(of(api.OpRmdir, "moved/new")), ok(of(api.OpRmdir, "moved")),
		name("c"), ok(of(api.OpMkdir, "d")), ok(of(api.OpMkdir, "d/x")), name("eb"), name("new"), end, rewind, end, end,
	})
	b.empty()
}

// TestNameless: P9.3: an open file remains complete when it has no name any more.
func TestNameless(t *testing.T) {
	b := play(t, []step{
		{of(api.OpUnlink, "g"), api.Result{}}, {of(api.OpUnlink, "d/f"), api.Result{}}, fails(of(api.OpStat, "l"), api.ENOENT),
		{api.Call{Op: api.OpRead, Fd: fdBoth, N: 2}, api.Result{N: 2, S: "ll"}},
		{api.Call{Op: api.OpWrite, Fd: fdWrite, A: " there, this is longer"}, api.Result{N: 22}},
		{api.Call{Op: api.OpPread, Fd: fdRead, N: 99}, api.Result{N: 27, S: "hello there, this is longer"}},
		{openAs(rwx, "d/f"), api.Result{N: 6}}, {api.Call{Op: api.OpWrite, Fd: 6, A: "another one"}, api.Result{N: 11}},
		{api.Call{Op: api.OpCut, A: "d/f", Off: 1}, api.Result{}}, {api.Call{Op: api.OpSeek, Fd: fdRead, Flag: 2}, api.Result{N: 27}},
		{on(api.OpClose, fdBoth), api.Result{}}, {on(api.OpClose, fdWrite), api.Result{}}, {api.Call{Op: api.OpPread, Fd: fdRead, N: 5}, api.Result{N: 5, S: "hello"}},
	})
	if got := b.s.Branch().Used(); got != 4 {
		t.Errorf("%d chunks; want 4", got)
	}
	b.gives(on(api.OpClose, fdRead), api.Result{})
	if got := b.s.Branch().Used(); got != 2 {
		t.Errorf("%d chunks; want 2", got)
	}
	b.empty()
}

// TestReplaced: P9.3: what a rename takes the name from stays as long as it is open.
func TestReplaced(t *testing.T) {
	b := play(t, []step{
		{of(api.OpUnlink, "g"), api.Result{}}, {openAs(rwx, "new"), api.Result{N: 6}}, {api.Call{Op: api.OpWrite, Fd: 6, A: "new"}, api.Result{N: 3}},
		{two(api.OpRename, "new", "d/f"), api.Result{}}, {api.Call{Op: api.OpPread, Fd: fdRead, N: 9}, api.Result{N: 5, S: "hello"}}, {api.Call{Op: api.OpPread, Fd: 6, N: 9}, api.Result{N: 3, S: "new"}},
		{of(api.OpOpendir, "d/e"), api.Result{N: 7}}, {of(api.OpMkdir, "e"), api.Result{}}, {of(api.OpMkdir, "e/x"), api.Result{}}, {two(api.OpRename, "e", "d/e"), api.Result{}},
		{on(api.OpRewind, 7), api.Result{}}, {on(api.OpReaddir, 7), api.Result{}}, {of(api.OpOpendir, "d/e"), api.Result{N: 8}}, {on(api.OpReaddir, 8), api.Result{N: 1, S: "x"}},
	})
	b.empty()
}

// TestFull: P9.2: MaxOpen descriptors, and one more: EMFILE comes before the path's errors, and after those of the flags.
func TestFull(t *testing.T) {
	b := sample(t)
	for fd := fdClosed; fd < api.MaxOpen; fd++ {
		c := of(api.OpOpendir, "d")
		if fd%2 == 0 {
			c = openAs(r, "l")
		}
		b.gives(c, api.Result{N: int64(fd)})
	}
	for _, a := range paths() {
		b.gives(of(api.OpOpendir, a), api.Result{E: api.EMFILE})
		for _, flag := range []int{r, w, rwc, rwx, rw | api.FlagCut, w | api.FlagAppend} {
			b.gives(openAs(flag, a), api.Result{E: api.EMFILE})
		}
		b.gives(openAs(0, a), api.Result{E: api.EINVAL})
		b.gives(openAs(r|api.FlagCut, a), api.Result{E: api.EINVAL})
	}
	for _, fd := range []int{31, 0, 17} {
		b.gives(on(api.OpClose, fd), api.Result{})
		b.gives(of(api.OpOpendir, "g"), api.Result{E: api.ENOTDIR})
		b.gives(openAs(r, "no"), api.Result{E: api.ENOENT})
		b.gives(openAs(rwc, "new"+strconv.Itoa(fd)), api.Result{N: int64(fd)})
		b.gives(openAs(r, "g"), api.Result{E: api.EMFILE})
	}
	b.empty()
}

// TestNoRoom: P9.2: where the store has no room any more, a write writes fewer bytes, or is ENOSPC.
func TestNoRoom(t *testing.T) {
	b := play(t, []step{
		{api.Call{Op: api.OpWrite, Fd: fdBoth, A: strings.Repeat("x", 90)}, api.Result{N: 78}}, {api.Call{Op: api.OpSeek, Fd: fdBoth, Flag: 1}, api.Result{N: 80}},
		fails(api.Call{Op: api.OpWrite, Fd: fdBoth, A: "x"}, api.ENOSPC), {api.Call{Op: api.OpSeek, Fd: fdBoth, Flag: 1}, api.Result{N: 80}},
		fails(api.Call{Op: api.OpWrite, Fd: fdWrite, A: "x"}, api.ENOSPC), {api.Call{Op: api.OpSeek, Fd: fdWrite, Flag: 1}, api.Result{}},
		fails(api.Call{Op: api.OpPwrite, Fd: fdGone, A: "x", Off: 16}, api.ENOSPC), {api.Call{Op: api.OpPwrite, Fd: fdGone, A: "xyz", Off: 15}, api.Result{N: 1}}, {api.Call{Op: api.OpWrite, Fd: fdBoth}, api.Result{}},
		{openAs(rwx, "new"), api.Result{N: 6}}, fails(api.Call{Op: api.OpWrite, Fd: 6, A: "x"}, api.ENOSPC), {api.Call{Op: api.OpCut, A: "new", Off: api.MaxFile}, api.Result{}},
		{openAs(w|api.FlagCut, "g"), api.Result{N: 7}}, {api.Call{Op: api.OpPwrite, Fd: 6, A: strings.Repeat("y", 81), Off: 3}, api.Result{N: 77}},
	})
	b.empty()
}

// TestNoInode: P9.2: where the branch has no inode any more, what is to be made is ENOSPC, and comes after all else.
func TestNoInode(t *testing.T) {
	b := sample(t)
	for n := b.s.Branch().Inodes(); n < api.MaxInode; n++ {
		b.gives(of(api.OpMkdir, "d/e/"+strconv.Itoa(n)), api.Result{})
	}
	for _, x := range []step{
		fails(openAs(rwc, "new"), api.ENOSPC), fails(openAs(rwx, "d/new"), api.ENOSPC), fails(openAs(rwc, "ln"), api.ENOSPC), fails(openAs(rwc, "new/"), api.EISDIR), fails(openAs(rwx, "g"), api.EEXIST),
		fails(of(api.OpMkdir, "new"), api.ENOSPC), fails(of(api.OpMkdir, "d"), api.EEXIST), fails(two(api.OpSymlink, "x", "new"), api.ENOSPC), fails(two(api.OpSymlink, "x", "new/"), api.ENOENT), fails(two(api.OpSymlink, "x", "g"), api.EEXIST),
		{two(api.OpLink, "g", "new"), api.Result{}}, {two(api.OpRename, "g", "newer"), api.Result{}}, {openAs(rwc, "d/f"), api.Result{N: fdClosed}}, {on(api.OpClose, fdGone), api.Result{}}, {openAs(rwx, "new2"), api.Result{N: fdGone}}, fails(of(api.OpMkdir, "new3"), api.ENOSPC),
	} {
		b.gives(x.c, x.r)
	}
	b.empty()
}

// TestManyLinks: P9.2: links that lead through MaxWalk others, and through one more.
func TestManyLinks(t *testing.T) {
	b := sample(t)
	b.gives(two(api.OpSymlink, "/d", "c0"), api.Result{})
	for i := range 41 {
		b.gives(two(api.OpSymlink, "c"+strconv.Itoa(i), "c"+strconv.Itoa(i+1)), api.Result{})
	}
	for _, x := range []step{
		{of(api.OpOpendir, "c39"), api.Result{N: 6}}, fails(of(api.OpOpendir, "c40"), api.ELOOP), {of(api.OpMkdir, "c39/x"), api.Result{}}, fails(of(api.OpMkdir, "c40/y"), api.ELOOP),
		{openAs(rwx, "c39/y"), api.Result{N: 7}}, fails(openAs(rwx, "c40/z"), api.ELOOP), {two(api.OpRename, "c39/y", "c39/z"), api.Result{}}, fails(two(api.OpRename, "c39/z", "c40/a"), api.ELOOP),
		{of(api.OpLstat, "c41"), api.Result{T: api.Stat{Kind: api.Link, Size: 3, Link: 1}}}, {of(api.OpReadlink, "c41"), api.Result{N: 3, S: "c40"}}, fails(of(api.OpRmdir, "c41/x"), api.ELOOP), {of(api.OpUnlink, "c41"), api.Result{}},
	} {
		b.gives(x.c, x.r)
	}
	b.empty()
}

// TestLongPaths: P9.2: names and paths of the greatest length, and of one more.
func TestLongPaths(t *testing.T) {
	name := strings.Repeat("n", api.MaxName)
	deep := strings.Repeat("a/", api.MaxDeep-1) + "a"
	full := strings.Repeat("/", api.MaxPath-1) + "x"
	b := sample(t)
	for _, x := range []step{
		{of(api.OpMkdir, name), api.Result{}}, fails(of(api.OpMkdir, name+"n"), api.ENAMETOOLONG), fails(of(api.OpMkdir, name+"n/x"), api.ENAMETOOLONG),
		{two(api.OpRename, name, "d/"+name), api.Result{}}, fails(two(api.OpRename, "d/"+name, name+"n"), api.ENAMETOOLONG),
		{of(api.OpMkdir, full), api.Result{}}, fails(of(api.OpMkdir, "/"+full), api.ENAMETOOLONG), {of(api.OpStat, full), api.Result{T: api.Stat{Kind: api.Dir, Link: 1}}}, fails(of(api.OpStat, full+"/"), api.ENAMETOOLONG),
	} {
		b.gives(x.c, x.r)
	}
	for i := range api.MaxDeep {
		b.gives(of(api.OpMkdir, deep[:2*i+1]), api.Result{})
	}
	b.gives(of(api.OpStat, deep+"/."), api.Result{T: api.Stat{Kind: api.Dir, Link: 1}})
	b.gives(of(api.OpMkdir, deep+"/a"), api.Result{E: api.ENAMETOOLONG})
	b.gives(of(api.OpStat, deep+"/.."), api.Result{E: api.ENAMETOOLONG})
	b.gives(two(api.OpSymlink, deep, "m"), api.Result{})
	b.gives(of(api.OpMkdir, "m/a"), api.Result{})
	b.gives(openAs(rwx, "m/a/f"), api.Result{N: 6})
	b.gives(of(api.OpUnlink, "m/a/f"), api.Result{})
	b.gives(of(api.OpRmdir, "m/a"), api.Result{})
	b.empty()
}
