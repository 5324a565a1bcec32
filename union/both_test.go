package union

import (
	"slices"
	"strings"
	"testing"

	"veneer/api"
	"veneer/branch"
	"veneer/flat"
	"veneer/merge"
	"veneer/tree"
)

// The flags that are met most.
const (
	r   = api.FlagRead
	w   = api.FlagWrite
	rw  = r | w
	rwc = rw | api.FlagCreate
	rwx = rwc | api.FlagExcl
	wa  = w | api.FlagAppend
)

// The kinds of lines.
func dir(at string) api.Line             { return api.Line{Path: at, Kind: api.Dir} }
func opaque(at string) api.Line          { return api.Line{Path: at, Kind: api.Dir, Data: "o"} }
func file(at, data string) api.Line      { return api.Line{Path: at, Kind: api.File, Data: data} }
func symlink(at, target string) api.Line { return api.Line{Path: at, Kind: api.Link, Data: target} }
func whiteout(at string) api.Line        { return api.Line{Path: at, Kind: api.White} }

// The kinds of calls.
func openAs(flag int, a string) api.Call { return api.Call{Op: api.OpOpen, Flag: flag, A: a} }
func on(op, fd int) api.Call             { return api.Call{Op: op, Fd: fd} }
func of(op int, a string) api.Call       { return api.Call{Op: op, A: a} }
func two(op int, a, b string) api.Call   { return api.Call{Op: op, A: a, B: b} }
func cut(a string, off int64) api.Call   { return api.Call{Op: api.OpCut, A: a, Off: off} }
func read(fd int, n int64) api.Call      { return api.Call{Op: api.OpRead, Fd: fd, N: n} }
func write(fd int, a string) api.Call    { return api.Call{Op: api.OpWrite, Fd: fd, A: a} }
func pwrite(fd int, a string, off int64) api.Call {
	return api.Call{Op: api.OpPwrite, Fd: fd, A: a, Off: off}
}
func pread(fd int, n, off int64) api.Call {
	return api.Call{Op: api.OpPread, Fd: fd, N: n, Off: off}
}

// both is a system, and its model beside it.
type both struct {
	t     *testing.T
	s     *System
	m     *tree.System
	low   []api.Line // the lower lines as they were told at first
	room  int
	begun int // copies that are neither dropped nor published
}

// newSystem makes one that can be made.
func newSystem(t *testing.T, over, low []api.Line, room int) *System {
	t.Helper()
	s, e := New(over, low, room)
	if e != api.OK || s == nil {
		t.Fatalf("New: error %d", e)
	}
	return s
}

func newBoth(t *testing.T, over, low []api.Line, room int) *both {
	t.Helper()
	s := newSystem(t, over, low, room)
	b, e := flat.Tree(s.Lines(), api.MaxRoom)
	if e != api.OK {
		t.Fatalf("the lines make no branch: error %d: %q", e, flat.Text(s.Lines()))
	}
	x := &both{t: t, s: s, m: tree.New(b), low: s.Lower(), room: room}
	x.same("it was made")
	return x
}

// lines are the model's.
func (b *both) lines() []api.Line {
	return flat.Of(merge.New(b.m.Branch(), branch.New(0), 1, 0))
}

// short is a call's result as a test tells it.
func short(x api.Result) api.Result {
	if len(x.S) > 256 {
		x.S = x.S[:64] + ".." + x.S[len(x.S)-64:]
	}
	return x
}

// do does a call on both, and holds them against each other.
func (b *both) do(c api.Call) api.Result {
	b.t.Helper()
	got := b.call(c)
	b.same(c)
	return got
}

// call does a call on both, without a look at the whole.
func (b *both) call(c api.Call) api.Result {
	b.t.Helper()
	got, want := b.s.Do(c), b.m.Do(c)
	if got != want {
		b.t.Fatalf("%+v: %+v; want %+v", c, short(got), short(want))
	}
	return got
}

// gives does a call that has one result only.
func (b *both) gives(c api.Call, want api.Result) {
	b.t.Helper()
	if got := b.do(c); got != want {
		b.t.Fatalf("%+v: %+v; want %+v", c, short(got), short(want))
	}
}

// all does calls that succeed.
func (b *both) all(calls ...api.Call) {
	b.t.Helper()
	for _, c := range calls {
		if got := b.do(c); got.E != api.OK {
			b.t.Fatalf("%+v: %+v", c, short(got))
		}
	}
}

// fails does a call that comes to an error.
func (b *both) fails(c api.Call, e api.Errno) {
	b.t.Helper()
	b.gives(c, api.Result{E: e})
}

// same holds what is seen of both against each other; the lower lines against those at first; and what is left in work against what was begun.
func (b *both) same(after any) {
	b.t.Helper()
	if got, want := b.s.Lines(), b.lines(); !flat.Same(got, want) {
		b.t.Fatalf("after %+v: the lines %q; want %q", after, flat.Text(got), flat.Text(want))
	}
	if got := b.s.Lower(); !flat.Same(got, b.low) {
		b.t.Fatalf("after %+v: the lower lines %q; want %q", after, flat.Text(got), flat.Text(b.low))
	}
	if got := b.s.Left(); got != b.begun {
		b.t.Fatalf("after %+v: %d left in work; want %d", after, got, b.begun)
	}
	if got := b.s.Used(); got < 0 || got > b.room {
		b.t.Fatalf("after %+v: %d chunks used of %d", after, got, b.room)
	}
	if got, want := b.s.Open(), b.m.Open(); !slices.Equal(got, want) {
		b.t.Fatalf("after %+v: open: %v; want %v", after, got, want)
	}
	for _, fd := range b.m.Open() {
		// Where it stands, and what is in its file; of a directory's, that it is one.
		if b.call(api.Call{Op: api.OpSeek, Fd: fd, Flag: 1}).E == api.OK {
			b.call(pread(fd, api.MaxFile, 0))
		}
	}
}

// tell reads what a directory's descriptor has left to tell.
func (b *both) tell(fd int) []string {
	b.t.Helper()
	var names []string
	for {
		x := b.call(on(api.OpReaddir, fd))
		if x == (api.Result{}) {
			return names
		}
		if x.E != api.OK || x.N != 1 || x.S == "" {
			b.t.Fatalf("Readdir %d: %+v", fd, x)
		}
		names = append(names, x.S)
	}
}

// anew rewinds a directory's descriptor, and reads it.
func (b *both) anew(fd int) []string {
	b.t.Helper()
	if x := b.call(on(api.OpRewind, fd)); x != (api.Result{}) {
		b.t.Fatalf("Rewind %d: %+v", fd, x)
	}
	return b.tell(fd)
}

// tellAll reads what all descriptors of directories have left to tell, and then what they tell anew.
func (b *both) tellAll() {
	b.t.Helper()
	for _, fd := range b.m.Open() {
		if b.m.Do(api.Call{Op: api.OpSeek, Fd: fd, Flag: 1}).E == api.EBADF { // a directory's
			b.tell(fd)
			b.anew(fd)
		}
	}
	b.same("all was told")
}

// is tells whether the system's lines are these.
func (b *both) is(want ...api.Line) {
	b.t.Helper()
	if got := b.s.Lines(); !flat.Same(got, want) {
		b.t.Fatalf("the lines %q; want %q", flat.Text(got), flat.Text(want))
	}
}

// zeros are zero bytes.
func zeros(n int) string { return strings.Repeat("\x00", n) }

// text is n bytes, none of which is 0.
func text(n int) string { return strings.Repeat("0123456789abcdefghijklmnopqrstu", n/31+1)[:n] }

// lowSample is a lower branch with all kinds of names, some of which the over sample hides or has, too.
func lowSample() []api.Line {
	return []api.Line{
		dir("/d"), dir("/d/e"), file("/d/f", "hello"), file("/d/g", text(60)), symlink("/d/l", "f"),
		dir("/d/s"), symlink("/d/s/k", "../../f"), file("/d/s/t", text(20)), dir("/d/s/u"),
		file("/f", "low f"), file("/g", "low g"), file("/h", "head"+zeros(44)+"tail"+zeros(40)),
		symlink("/k", "d"), symlink("/ko", "ko"), symlink("/kn", "/m/n"), symlink("/kx", "d/new"),
		dir("/m"), file("/m/a", "low a"), file("/m/b", "low b"), file("/m/c", "low c"), dir("/m/p"), file("/m/p/q", text(33)), dir("/m/v"), file("/m/v/x", "low x"), symlink("/m/x", "b"),
		dir("/o"), file("/o/x", "low x"), dir("/o/y"), file("/o/y/z", "low z"),
		dir("/q"), file("/q/a", "low a"), file("/qd", "low qd"),
		dir("/r"), file("/r/1", "one"), dir("/r/2"), file("/r/2/3", "three"),
		dir("/v"), file("/v/z", "low z"), file("/w", "low w"), dir("/z"),
	}
}

func overSample() []api.Line {
	return []api.Line{
		file("/g", "up g"), dir("/m"), file("/m/b", "up b"), whiteout("/m/c"), file("/m/n", "up n"), whiteout("/m/v"),
		opaque("/o"), symlink("/o/i", "x"), file("/o/x", "up x"), file("/q", "up q"), dir("/qd"),
		dir("/r"), whiteout("/r/1"), whiteout("/r/2"),
		dir("/t"), file("/t/i", "up i"), symlink("/t/j", "i"), dir("/t/n"), whiteout("/t/w"),
		whiteout("/v"), whiteout("/w"), dir("/y"), dir("/yy"), whiteout("/yy/w"),
	}
}

// sample is the two of them.
func sample(t *testing.T) *both {
	t.Helper()
	return newBoth(t, overSample(), lowSample(), 100)
}

// files and dirs are what a watched sample has open.
func files() []string {
	return []string{"d/f", "d/g", "d/s/t", "f", "g", "h", "m/a", "m/b", "m/p/q", "o/x", "t/i"}
}

func dirs() []string {
	return []string{"/", "d", "d/e", "d/s", "d/s/u", "m", "m/p", "o", "qd", "r", "t", "y", "yy", "z"}
}

// watch opens all of them.
func (b *both) watch() *both {
	b.t.Helper()
	for _, at := range files() {
		b.call(openAs(r, at))
	}
	for _, at := range dirs() {
		b.call(of(api.OpOpendir, at))
	}
	b.same("all was opened")
	if n := len(b.s.Open()); n != len(files())+len(dirs()) {
		b.t.Fatalf("%d are open", n)
	}
	return b
}

// watched is a sample with descriptors of files and directories of all kinds.
func watched(t *testing.T) *both {
	t.Helper()
	return sample(t).watch()
}
