package union

import (
	"slices"
	"strconv"
	"strings"
	"testing"

	"veneer/api"
)

// crowd adds names that nothing has and nobody sees, so that an upper branch of the lines has only so many free inodes.
func crowd(over []api.Line, free int) []api.Line {
	over = slices.Clone(over)
	for i := 0; len(over) < api.MaxInode-3-free; i++ {
		over = append(over, whiteout("/zz"+strconv.Itoa(i)))
	}
	return over
}

// demand is a call on a sample, and what it may need at most: what it copies beside the directories on its paths, these, and chunks.
type demand struct {
	c                    api.Call
	things, dirs, chunks int
}

// inodes is how many it may need at most.
func (d demand) inodes() int { return d.things + d.dirs + 2 }

// demands are calls of all kinds on names of all kinds.
func demands() []demand {
	rename := func(a, b string) api.Call { return two(api.OpRename, a, b) }
	link := func(a, b string) api.Call { return two(api.OpLink, a, b) }
	return []demand{
		{openAs(w, "d/g"), 1, 1, 4}, {openAs(rw|api.FlagCut, "d/s/t"), 1, 2, 2}, {openAs(rwc, "h"), 1, 0, 2}, {openAs(wa, "d/s/k"), 1, 0, 1}, {openAs(w, "m/b"), 0, 0, 0}, {openAs(w, "kn"), 0, 0, 0},
		{openAs(r, "d/g"), 0, 0, 0}, {openAs(r|api.FlagCreate, "m/p/q"), 0, 0, 0}, {of(api.OpStat, "d/s"), 0, 0, 0}, {of(api.OpOpendir, "d/s/u"), 0, 3, 0}, {of(api.OpOpendir, "m"), 0, 1, 0},
		{openAs(rwx, "new"), 0, 0, 0}, {openAs(rwx, "d/s/new"), 0, 2, 0}, {openAs(rwc, "kx"), 0, 1, 0}, {openAs(rwx, "v"), 0, 0, 0}, {openAs(rwc, "m/c"), 0, 1, 0},
		{cut("d/g", 7), 1, 1, 4}, {cut("d/g", 0), 1, 1, 4}, {cut("m/p/q", 5000), 1, 2, 3}, {cut("h", 9), 1, 0, 2}, {cut("m/n", 99), 0, 0, 0},
		{of(api.OpMkdir, "new"), 0, 0, 0}, {of(api.OpMkdir, "d/s/u/new"), 0, 3, 0}, {of(api.OpMkdir, "v"), 0, 0, 0}, {of(api.OpMkdir, "m/c"), 0, 1, 0}, {of(api.OpMkdir, "o/y"), 0, 1, 0},
		{two(api.OpSymlink, "x", "new"), 0, 0, 0}, {two(api.OpSymlink, "x", "d/s/new"), 0, 2, 0}, {two(api.OpSymlink, "x", "w"), 0, 0, 0}, {two(api.OpSymlink, "x", "m/v"), 0, 1, 0},
		{of(api.OpUnlink, "f"), 0, 0, 0}, {of(api.OpUnlink, "d/s/t"), 0, 2, 0}, {of(api.OpUnlink, "d/l"), 0, 1, 0}, {of(api.OpUnlink, "g"), 0, 0, 0}, {of(api.OpUnlink, "m/b"), 0, 1, 0}, {of(api.OpUnlink, "t/i"), 0, 1, 0}, {of(api.OpUnlink, "q"), 0, 0, 0}, {of(api.OpUnlink, "o/x"), 0, 1, 0},
		{of(api.OpRmdir, "z"), 0, 0, 0}, {of(api.OpRmdir, "d/e"), 0, 1, 0}, {of(api.OpRmdir, "d/s/u"), 0, 2, 0}, {of(api.OpRmdir, "r"), 0, 0, 0}, {of(api.OpRmdir, "qd"), 0, 0, 0}, {of(api.OpRmdir, "y"), 0, 0, 0}, {of(api.OpRmdir, "yy"), 0, 0, 0}, {of(api.OpRmdir, "t/n"), 0, 1, 0},
		{link("d/g", "new"), 1, 1, 4}, {link("d/g", "m/p/new"), 1, 3, 4}, {link("d/l", "d/s/new"), 1, 2, 0}, {link("d/g", "v"), 1, 1, 4}, {link("f", "m/c"), 1, 1, 1}, {link("g", "w"), 0, 0, 0}, {link("m/b", "d/s/new"), 0, 3, 0},
		{rename("d/g", "new"), 1, 1, 4}, {rename("d/g", "m/p/new"), 1, 3, 4}, {rename("d/g", "m/p/q"), 1, 3, 4}, {rename("d/g", "v"), 1, 1, 4}, {rename("d/g", "m/b"), 1, 2, 4}, {rename("d/l", "m/p/l"), 1, 3, 0}, {rename("k", "d/l"), 1, 1, 0},
		{rename("g", "new"), 0, 0, 0}, {rename("g", "m/c"), 0, 1, 0}, {rename("g", "f"), 0, 0, 0}, {rename("m/b", "d/s/t"), 0, 3, 0}, {rename("t/i", "d/f"), 0, 2, 0}, {rename("q", "qq"), 0, 0, 0},
		{rename("d", "new"), 8, 1, 7}, {rename("d", "v"), 8, 1, 7}, {rename("d", "z"), 8, 1, 7}, {rename("d", "r"), 8, 1, 7}, {rename("d", "m/p/new"), 8, 3, 7}, {rename("d", "t/n"), 8, 2, 7}, {rename("d/s", "d/e"), 3, 3, 2}, {rename("d/s", "s"), 3, 2, 2}, {rename("d/s/u", "u"), 0, 3, 0},
		{rename("m", "new"), 4, 1, 4}, {rename("m", "r"), 4, 1, 4}, {rename("m/p", "m/c"), 1, 2, 3}, {rename("o", "new"), 0, 1, 0}, {rename("o", "d/e"), 0, 3, 0}, {rename("t", "v"), 0, 1, 0}, {rename("yy", "r"), 0, 2, 0}, {rename("qd", "z"), 0, 2, 0}, {rename("r", "z"), 0, 2, 0}, {rename("z", "w"), 0, 1, 0},
	}
}

// TestDemands: what the calls of the table come to, where there is space enough: they are none that fail.
func TestDemands(t *testing.T) {
	for _, d := range demands() {
		b := watched(t)
		b.all(d.c)
		b.tellAll()
	}
}

// tries does a call where space may be short of what it may need, and tells whether that was all it came to.
func (b *both) tries(c api.Call, enough bool, what string) bool {
	b.t.Helper()
	got := b.s.Do(c)
	if got.E == api.ENOSPC {
		if enough {
			b.t.Errorf("%+v with %s: ENOSPC", c, what)
		}
		if got != (api.Result{E: api.ENOSPC}) {
			b.t.Errorf("%+v with %s: %+v", c, what, got)
		}
	} else if want := b.m.Do(c); got != want {
		b.t.Fatalf("%+v with %s: %+v; want %+v", c, what, got, want)
	}
	b.same(c)
	return got.E == api.ENOSPC
}

// TestFewInodes: P13.3: calls where the upper branch has few free inodes, so that they end at each of their steps: ENOSPC comes only if they may need more, and then the lines are as before.
func TestFewInodes(t *testing.T) {
	t.Parallel()
	for _, d := range demands() {
		for _, open := range [][]string{nil, files()} {
			for free := range d.inodes() + 2 {
				b := newBoth(t, crowd(overSample(), free), lowSample(), 100)
				for _, at := range open {
					b.call(openAs(r, at))
				}
				enough := free >= d.inodes()
				if b.tries(d.c, enough, strconv.Itoa(free)+" free inodes") {
					// What is taken away gives its inodes back, so that more can be done then.
					b.all(of(api.OpUnlink, "o/x"), of(api.OpUnlink, "o/i"), of(api.OpRmdir, "y"), of(api.OpStat, "d/g"))
				}
			}
		}
	}
}

// TestLittleRoom: P13.3: calls where the upper branch has few free chunks.
func TestLittleRoom(t *testing.T) {
	t.Parallel()
	used := newSystem(t, overSample(), lowSample(), 100).Used()
	for _, d := range demands() {
		for free := range d.chunks + 2 {
			b := newBoth(t, overSample(), lowSample(), used+free).watch()
			enough := free >= d.chunks
			if b.tries(d.c, enough, strconv.Itoa(free)+" free chunks") == enough {
				t.Errorf("%+v with %d free chunks, of %d needed: ENOSPC %t", d.c, free, d.chunks, !enough)
			}
			b.tellAll()
		}
	}
}

// TestMustFail: P13.3: what can't be done without another inode is ENOSPC where there is none, and all stays as it is.
func TestMustFail(t *testing.T) {
	for _, c := range []api.Call{
		openAs(w, "f"), openAs(w, "d/f"), openAs(rwx, "new"), openAs(rwc, "kx"), cut("f", 2), of(api.OpMkdir, "new"), of(api.OpMkdir, "d/new"), two(api.OpSymlink, "x", "new"), of(api.OpUnlink, "d/f"), of(api.OpUnlink, "f"), of(api.OpRmdir, "z"),
		two(api.OpLink, "f", "new"), two(api.OpLink, "d/l", "new"), two(api.OpRename, "f", "new"), two(api.OpRename, "d", "new"), two(api.OpRename, "z", "new"), two(api.OpRename, "k", "new"), two(api.OpRename, "g", "d/new"),
	} {
		b := newBoth(t, crowd(overSample(), 0), lowSample(), 100)
		if !b.tries(c, false, "no free inode") {
			t.Errorf("%+v is done without an inode", c)
		}
	}
}

// TestShortWrites: P13.3: a write ends where it has no chunk, and not before.
func TestShortWrites(t *testing.T) {
	for free := range 4 {
		for off := range int64(80) {
			for _, n := range []int64{0, 1, 16, 17, 40} {
				b := newBoth(t, []api.Line{file("/f", text(20))}, []api.Line{file("/f", "below")}, 2+free)
				b.all(openAs(rw, "f"), openAs(r, "f"))
				got, most := b.s.Do(pwrite(0, text(int(n)), off)), canWrite(off, n, free)
				if n > 0 && most == 0 {
					if got != (api.Result{E: api.ENOSPC}) {
						t.Fatalf("%d free chunks: %d bytes at %d: %+v; want ENOSPC", free, n, off, got)
					}
				} else if want := b.m.Do(pwrite(0, text(int(n))[:most], off)); got != want {
					t.Fatalf("%d free chunks: %d bytes at %d: %+v; want %+v", free, n, off, got, want)
				}
				b.same("a write")
			}
		}
	}
}

// canWrite tells how many of n bytes can be written to a file that has the chunks 0 and 1.
func canWrite(off, n int64, free int) int64 {
	last := int64(1) // the last chunk that is there
	for i := range n {
		if k := (off + i) / api.Chunk; k > last {
			if free == 0 {
				return i
			}
			free, last = free-1, k
		}
	}
	return n
}

// TestAgainWithRoom: P13.3: a call that had no room is done when there is some; what it copied till then is as good as what it didn't.
func TestAgainWithRoom(t *testing.T) {
	b := newBoth(t, []api.Line{file("/x", text(60))}, []api.Line{dir("/a"), file("/a/f", text(40)), file("/a/g", text(40)), file("/a/h", text(16))}, 10)
	b.all(openAs(r, "a/f"), openAs(r, "a/g"), openAs(r, "a/h"), of(api.OpOpendir, "a"))
	if !b.tries(two(api.OpRename, "a", "b"), false, "room for two files") || !b.tries(two(api.OpRename, "a", "b"), false, "room for two files") {
		t.Fatalf("Rename: there was room")
	}
	b.all(openAs(w, "a/f"), write(4, "F"), of(api.OpUnlink, "x"), two(api.OpRename, "a", "b"), openAs(w, "b/g"), write(5, "G"), openAs(w, "b/h"), write(6, "H"))
	for fd, first := range []string{"F", "G", "H"} {
		b.gives(read(fd, 1), api.Result{N: 1, S: first})
	}
	b.tellAll()
}

// TestZeros: P13.3: chunks of zero bytes need no room, whoever copies them.
func TestZeros(t *testing.T) {
	low := []api.Line{dir("/d"), file("/d/f", zeros(1000)), file("/d/g", zeros(31)+"x"+zeros(99))}
	b := newBoth(t, nil, low, 1)
	b.all(openAs(r, "d/f"), openAs(rw, "d/f"), two(api.OpRename, "d", "e"))
	if b.s.Used() != 1 {
		t.Errorf("%d chunks used", b.s.Used())
	}
	if x := b.s.Do(write(1, strings.Repeat("x", 17))); x != (api.Result{E: api.ENOSPC}) {
		t.Errorf("a write into a hole: %+v", x)
	}
	b.same("ENOSPC")
}
