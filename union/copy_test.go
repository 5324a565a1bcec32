package union

import (
	"slices"
	"strconv"
	"strings"
	"testing"

	"veneer/api"
)

// begin begins a copy of a lower file.
func (b *both) begin(at string) *Copy {
	b.t.Helper()
	c, e := b.s.Begin(at)
	if e != api.OK || c == nil {
		b.t.Fatalf("Begin %s: error %d, a copy %t", at, e, c != nil)
	}
	b.begun++
	b.same("Begin " + at)
	return c
}

// none tells Begin where there is nothing to copy, or an error.
func (b *both) none(at string, want api.Errno) {
	b.t.Helper()
	c, e := b.s.Begin(at)
	if c != nil || e != want {
		b.t.Fatalf("Begin %s: error %d, a copy %t; want %d", at, e, c != nil, want)
	}
	b.same("Begin " + at)
}

// step does one step of a copy.
func (b *both) step(c *Copy, want bool) {
	b.t.Helper()
	whole, e := c.Step()
	if whole != want || e != api.OK {
		b.t.Fatalf("Step: %t, error %d; want %t", whole, e, want)
	}
	b.same("Step")
}

// steps does all steps of a copy of so many chunks.
func (b *both) steps(c *Copy, chunks int) {
	b.t.Helper()
	for range chunks {
		b.step(c, false)
	}
	b.step(c, true)
}

// publish publishes a copy that hasn't been dropped.
func (b *both) publish(c *Copy, want bool) {
	b.t.Helper()
	if got := c.Publish(); got != want {
		b.t.Fatalf("Publish: %t; want %t", got, want)
	}
	b.begun--
	b.same("Publish")
}

// drop drops a copy that hasn't been dropped.
func (b *both) drop(c *Copy) {
	b.t.Helper()
	c.Drop()
	b.begun--
	b.same("Drop")
}

// ended tells that a copy does nothing any more.
func (b *both) ended(c *Copy) {
	b.t.Helper()
	used := b.s.Used()
	b.step(c, true)
	if c.Publish() {
		b.t.Fatalf("it is published, although it was before, or was dropped")
	}
	c.Drop()
	b.step(c, true)
	b.same("a copy had ended")
	if b.s.Used() != used {
		b.t.Fatalf("%d chunks used; they were %d", b.s.Used(), used)
	}
}

// TestBegin: P13.5: where there is something to copy, where not, and where an error.
func TestBegin(t *testing.T) {
	b := watched(t)
	for _, at := range paths() {
		st := b.m.Do(of(api.OpStat, at))
		c, e := b.s.Begin(at)
		if e != st.E && !(st.T.Kind == api.Dir && e == api.EISDIR) || (c != nil) && e != api.OK {
			t.Errorf("Begin %s: error %d, a copy %t; OpStat: %+v", at, e, c != nil, st)
		}
		lower := slices.Contains([]string{"d/f", "d/g", "d/l", "d/s/t", "d/s/k", "d/s/../f", "f", "h", "k/f", "m/a", "m/p/q"}, at)
		if (c != nil) != lower {
			t.Errorf("Begin %s: a copy %t", at, c != nil)
		}
		if c != nil {
			b.begun++
			b.drop(c)
		}
		b.same("Begin " + at)
	}
	b.none("g", api.OK)
	b.none("m/x", api.OK)
	b.none("d", api.EISDIR)
	b.none("k/", api.EISDIR)
	b.none("", api.ENOENT)
	b.none("w", api.ENOENT)
	b.none("ko", api.ELOOP)
	b.none("f/", api.ENOTDIR)
	b.none("a\x00", api.EINVAL)
	b.none(text(61), api.ENAMETOOLONG)
	for _, at := range []string{"d/f", "d/g", "d/s/t", "f", "h", "m/a", "m/p/q"} {
		b.all(openAs(w, at), on(api.OpClose, 25))
		b.none(at, api.OK)
	}
}

// TestKey: P13.5: the key of a copy is its file's inode in the lower branch, whichever path leads there, and whatever became of the copy.
func TestKey(t *testing.T) {
	b := sample(t)
	for _, x := range [][]string{{"d/f", "/d/./f", "d/l", "k/f", "k/l"}, {"f", "d/s/k", "d/../f"}, {"d/g"}, {"h"}, {"m/a"}, {"m/p/q"}, {"d/s/t"}} {
		// The lines get their inodes in their order, from the one behind the root's on.
		want := 2 + slices.IndexFunc(lowSample(), func(l api.Line) bool { return l.Path == "/"+x[0] })
		for _, at := range x {
			c := b.begin(at)
			b.step(c, false)
			if c.Key() != want {
				t.Errorf("%s: key %d; want %d", at, c.Key(), want)
			}
			b.drop(c)
			if c.Key() != want {
				t.Errorf("%s, dropped: key %d; want %d", at, c.Key(), want)
			}
		}
		c := b.begin(x[0])
		for whole := false; !whole; {
			whole, _ = c.Step()
		}
		b.publish(c, true)
		if c.Key() != want {
			t.Errorf("%s, published: key %d; want %d", x[0], c.Key(), want)
		}
	}
}

// TestSteps: P13.5: a step copies a chunk that has something; the last one sets the size; then a copy is published.
func TestSteps(t *testing.T) {
	for data, chunks := range map[string]int{
		"": 0, "x": 1, text(15): 1, text(16): 1, text(17): 2, text(64): 4, text(65): 5,
		zeros(1): 0, zeros(500): 0, zeros(16) + "x": 1, "x" + zeros(15): 1, "x" + zeros(40): 1, "head" + zeros(44) + "tail" + zeros(40): 2, zeros(15) + "ab": 2, zeros(100) + text(20) + zeros(100): 2,
	} {
		b := newBoth(t, nil, []api.Line{dir("/d"), file("/d/f", data)}, chunks)
		b.all(openAs(r, "d/f"), of(api.OpOpendir, "d"))
		c := b.begin("d/f")
		for k := range chunks {
			b.step(c, false)
			if b.s.Used() != k+1 {
				t.Errorf("%q: after %d steps %d chunks are used", data, k+1, b.s.Used())
			}
		}
		b.step(c, true)
		b.step(c, true)
		b.publish(c, true)
		b.ended(c)
		if b.s.Used() != chunks {
			t.Errorf("%q: %d chunks used", data, b.s.Used())
		}
		b.none("d/f", api.OK)
		// The descriptor goes on with the copy, for which no more room is needed.
		b.all(openAs(w, "d/f"), cut("d/f", 0))
		if b.s.Used() != 0 {
			t.Errorf("%q: %d chunks used when it is cut", data, b.s.Used())
		}
		if chunks > 0 {
			b.all(pwrite(2, "new", 0), read(0, 99))
		}
		b.tellAll()
	}
}

// TestSeveral: P13.5: several copies at one time, also of one file: only the first one that is published is.
func TestSeveral(t *testing.T) {
	b := watched(t)
	x, y, z, other := b.begin("d/g"), b.begin("d/g"), b.begin("k/g"), b.begin("f")
	for range 3 {
		b.step(x, false)
		b.step(y, false)
	}
	b.steps(other, 1)
	b.steps(z, 4)
	b.steps(x, 1)
	b.publish(x, true)
	b.publish(other, true)
	again := b.begin("d/s/t") // it may get a name in work that another one had
	b.ended(x)
	b.steps(y, 1)
	b.publish(y, false)
	b.publish(z, false)
	b.ended(y)
	b.ended(z)
	b.ended(other)
	b.steps(again, 2)
	b.publish(again, true)
	b.all(openAs(rw, "d/g"), pwrite(25, "new", 20))
	b.gives(pread(1, 5, 19), api.Result{N: 5, S: text(20)[19:] + "new" + text(24)[23:]})
	b.tellAll()
}

// TestMany: P13.5: as many copies at one time as there are inodes.
func TestMany(t *testing.T) {
	b := newBoth(t, crowd(nil, 7), []api.Line{dir("/d"), file("/d/f", "hello")}, 5)
	var all []*Copy
	for range 7 {
		all = append(all, b.begin("d/f"))
	}
	b.none("d/f", api.ENOSPC)
	b.drop(all[3])
	all[3] = b.begin("d/f")
	b.none("d/f", api.ENOSPC)
	b.none("d", api.EISDIR)
	b.none("f", api.ENOENT)
	b.steps(all[0], 1)
	// There is none for the directory.
	b.publish(all[0], false)
	b.ended(all[0])
	b.steps(all[1], 1)
	b.publish(all[1], true)
	for _, c := range all[2:] {
		b.step(c, false)
		b.drop(c)
		b.ended(c)
	}
	if b.s.Used() != 1 {
		t.Errorf("%d chunks used", b.s.Used())
	}
	b.all(openAs(w, "d/f"), pwrite(0, "H", 0))
}

// TestNoRoom: P13.5: a step that has no chunk drops the copy, which tells the error once.
func TestNoRoom(t *testing.T) {
	for room := range 5 {
		b := newBoth(t, nil, []api.Line{dir("/d"), file("/d/g", text(16)+zeros(16)+text(50))}, room)
		b.all(openAs(r, "d/g"))
		c := b.begin("d/g")
		for range room {
			b.step(c, false)
		}
		if whole, e := c.Step(); !whole || e != api.ENOSPC {
			t.Fatalf("room %d: %t, error %d", room, whole, e)
		}
		b.begun--
		b.same("ENOSPC")
		if b.s.Used() != 0 {
			t.Errorf("room %d: %d chunks used", room, b.s.Used())
		}
		b.ended(c)
	}
	b := newBoth(t, nil, []api.Line{file("/f", "f"), file("/g", "g")}, 1)
	c := b.begin("f")
	b.step(c, false)
	if got := b.s.Do(openAs(w, "g")); got != (api.Result{E: api.ENOSPC}) {
		t.Errorf("Open g, where a copy has all the room: %+v", got)
	}
	b.same("ENOSPC")
	b.drop(c)
	b.all(openAs(w, "g"))
}

// TestDrop: P13.5: what was dropped leaves nothing, wherever it was.
func TestDrop(t *testing.T) {
	for n := range 7 {
		b := watched(t)
		used := b.s.Used()
		c := b.begin("d/g")
		for k := range n {
			b.step(c, k >= 4)
		}
		b.drop(c)
		b.ended(c)
		if b.s.Used() != used {
			t.Errorf("%d steps: %d chunks used; they were %d", n, b.s.Used(), used)
		}
		c = b.begin("d/g")
		b.steps(c, 4)
		b.publish(c, true)
	}
}

// TestNotWhole: P13.5: a copy that isn't whole is dropped by Publish.
func TestNotWhole(t *testing.T) {
	for n := range 5 {
		b := watched(t)
		used := b.s.Used()
		c := b.begin("d/g")
		for range n {
			b.step(c, false)
		}
		b.publish(c, false)
		b.ended(c)
		if b.s.Used() != used {
			t.Errorf("%d steps: %d chunks used; they were %d", n, b.s.Used(), used)
		}
	}
	b := watched(t)
	b.publish(b.begin("h"), false)
}

// TestElsewhere: P13.5: a copy whose names don't lead to its file any more is dropped by Publish, wherever they lead, and whenever that came.
func TestElsewhere(t *testing.T) {
	for _, x := range []struct {
		calls []api.Call
		want  bool
	}{
		{want: true},
		{calls: []api.Call{openAs(r, "d/g"), of(api.OpStat, "d/g"), of(api.OpOpendir, "d")}, want: true},
		{calls: []api.Call{openAs(rwx, "d/new"), of(api.OpUnlink, "d/f"), of(api.OpRmdir, "d/e"), two(api.OpRename, "d/s", "s")}, want: true},
		{calls: []api.Call{of(api.OpUnlink, "k"), two(api.OpSymlink, "m", "k")}, want: true}, // only the link leads elsewhere
		{calls: []api.Call{two(api.OpRename, "d/g", "d/g"), two(api.OpRename, "d", "d")}, want: true},
		{calls: []api.Call{openAs(w, "d/g")}},
		{calls: []api.Call{cut("d/g", 60)}},
		{calls: []api.Call{two(api.OpLink, "d/g", "new")}},
		{calls: []api.Call{of(api.OpUnlink, "d/g")}},
		{calls: []api.Call{of(api.OpUnlink, "d/g"), openAs(rwx, "d/g"), write(25, "new")}},
		{calls: []api.Call{of(api.OpUnlink, "d/g"), of(api.OpMkdir, "d/g")}},
		{calls: []api.Call{of(api.OpUnlink, "d/g"), two(api.OpSymlink, "f", "d/g")}},
		{calls: []api.Call{two(api.OpRename, "d/g", "new")}},
		{calls: []api.Call{two(api.OpRename, "d/g", "new"), two(api.OpRename, "new", "d/g")}},
		{calls: []api.Call{two(api.OpRename, "d/f", "d/g")}},
		{calls: []api.Call{two(api.OpRename, "d", "new")}},
		{calls: []api.Call{two(api.OpRename, "d", "new"), two(api.OpRename, "new", "d")}},
		{calls: []api.Call{two(api.OpRename, "d", "new"), of(api.OpMkdir, "d"), openAs(rwx, "d/g")}},
		{calls: []api.Call{two(api.OpRename, "d", "new"), two(api.OpSymlink, "new", "d")}},
	} {
		for when := range 6 {
			b := watched(t)
			c := b.begin("k/g")
			for k := range 5 {
				if k == when {
					b.all(x.calls...)
				}
				b.step(c, k == 4)
			}
			if when == 5 {
				b.all(x.calls...)
			}
			b.publish(c, x.want)
			b.ended(c)
			b.tellAll()
			// Who had it open still has it, under whatever name.
			b.call(openAs(w, "new/g"))
			b.call(openAs(w, "d/g"))
			b.call(openAs(w, "new"))
			for _, fd := range b.s.Open()[25:] {
				b.do(pwrite(fd, strings.Repeat("w", fd), int64(fd)))
			}
		}
	}
}

// TestAnotherCopy: P13.5: a copy is dropped by Publish when another one was published, or a call copied its file.
func TestAnotherCopy(t *testing.T) {
	b := watched(t)
	x, y := b.begin("m/p/q"), b.begin("m/p/q")
	b.steps(x, 3)
	b.steps(y, 3)
	b.publish(y, true)
	b.all(openAs(w, "m/p/q"), pwrite(25, "new", 0))
	b.publish(x, false)
	b.gives(pread(8, 5, 0), api.Result{N: 5, S: "new34"})
	b.all(of(api.OpUnlink, "m/p/q"))
	b.ended(x)
	b.ended(y)
}

// TestDirectories: P13.5: Publish makes the directories above, also while they are open; if it can't, the copy is dropped.
func TestDirectories(t *testing.T) {
	for free := range 7 {
		b := newBoth(t, crowd(nil, free), []api.Line{dir("/a"), dir("/a/b"), dir("/a/b/c"), file("/a/b/c/f", "hello"), file("/a/b/c/g", "")}, 9)
		b.all(openAs(r, "a/b/c/f"))
		if free == 0 {
			b.none("a/b/c/f", api.ENOSPC)
			continue
		}
		c := b.begin("a/b/c/f")
		b.steps(c, 1)
		b.publish(c, free >= 4)
		b.ended(c)
		if used := b.s.Used(); (used == 1) != (free >= 4) || used > 1 {
			t.Errorf("%d free inodes: %d chunks used", free, used)
		}
	}
	b := watched(t)
	c := b.begin("d/s/t")
	b.steps(c, 2)
	b.publish(c, true)
	b.all(of(api.OpUnlink, "d/s/t"), openAs(rwx, "d/s/new"), openAs(rwx, "d/new"))
	for fd, want := range map[int][]string{12: {"e", "f", "g", "l", "new", "s"}, 14: {"k", "new", "u"}} {
		if got := b.anew(fd); !slices.Equal(got, want) {
			t.Errorf("descriptor %d tells %q; want %q", fd, got, want)
		}
	}
}

// TestCallsBetween: P13.5, P13.4: calls of all kinds while copies are on their way: nothing of work is seen, nor in its way.
func TestCallsBetween(t *testing.T) {
	for _, d := range demands() {
		b := watched(t)
		copies := []*Copy{b.begin("d/g"), b.begin("d/f"), b.begin("d/s/t"), b.begin("h"), b.begin("m/p/q"), b.begin("d/g")}
		for i, c := range copies {
			for range i {
				c.Step()
			}
		}
		b.same("some steps")
		b.all(d.c)
		for _, c := range copies {
			for whole := false; !whole; {
				whole, _ = c.Step()
			}
			c.Publish()
			b.begun--
			b.same(d.c)
			b.ended(c)
		}
		b.tellAll()
		for i, fd := range b.s.Open() {
			b.do(pwrite(fd, strconv.Itoa(i), 7))
		}
	}
}
