package union

import (
	"math/rand/v2"
	"slices"
	"strings"
	"testing"

	"veneer/api"
	"veneer/path"
	"veneer/walk"
)

// pick is one of some.
func pick[T any](r *rand.Rand, some ...T) T {
	return some[r.IntN(len(some))]
}

// grown are random lines of a tree, in which each directory stands ahead of its names; over ones have Whites and marks too.
func grown(r *rand.Rand, n int, over bool) []api.Line {
	var l []api.Line
	in := []string{""}
	for range n {
		at := pick(r, in...) + "/" + pick(r, "a", "b", "c", "d")
		if strings.Count(at, "/") > 4 || slices.ContainsFunc(l, func(x api.Line) bool { return x.Path == at }) {
			continue
		}
		switch k := r.IntN(10); {
		case k < 4:
			in = append(in, at)
			l = append(l, dir(at))
			if over && r.IntN(4) == 0 {
				l[len(l)-1] = opaque(at)
			}
		case k < 6 && over:
			l = append(l, whiteout(at))
		case k < 7:
			l = append(l, symlink(at, somePath(r)))
		default:
			l = append(l, file(at, pick(r, "x", text(r.IntN(70)), text(r.IntN(70)), zeros(r.IntN(40)), text(r.IntN(20))+zeros(r.IntN(40))+text(r.IntN(20)))))
		}
	}
	return l
}

// somePath is a path of few names.
func somePath(r *rand.Rand) string {
	at := pick(r, "", "", "/", "./")
	for i := range 1 + r.IntN(4) {
		if i > 0 {
			at += pick(r, "/", "/", "/", "/", "//", "/./", "/../")
		}
		at += pick(r, "a", "a", "b", "b", "c", "d", "e")
	}
	return at + pick(r, "", "", "", "", "", "", "/", "/.", "/..")
}

// path is a path that leads somewhere, most times.
func (b *both) path(r *rand.Rand) string {
	lines := b.lines()
	if len(lines) == 0 || r.IntN(8) == 0 {
		return somePath(r)
	}
	at := pick(r, lines...)
	if at.Kind == api.Dir && r.IntN(4) == 0 {
		return at.Path + "/" + pick(r, "a", "b", "c", "d")
	}
	return at.Path
}

// someOp is a call's number; what makes and what reads comes more often than what takes away.
func someOp(r *rand.Rand) int {
	return pick(r, 1+r.IntN(20), 1+r.IntN(20), 1+r.IntN(20), 1+r.IntN(20), api.OpOpen, api.OpOpen, api.OpOpen, api.OpMkdir, api.OpRename, api.OpRename, api.OpLink, api.OpLink, api.OpWrite, api.OpSeek, api.OpCut)
}

// someCall is a call that may well do something.
func (b *both) someCall(r *rand.Rand) api.Call {
	c := api.Call{
		Op: someOp(r), Fd: r.IntN(24), Flag: pick(r, 1, 1, 2, 3, 3, 7, 7, 15, 19, 23, 34, 39, r.IntN(64)), N: int64(r.IntN(40)), Off: int64(r.IntN(60)), A: b.path(r), B: b.path(r),
	}
	if open := b.m.Open(); len(open) > 0 && r.IntN(8) > 0 {
		c.Fd = pick(r, open...)
	}
	switch c.Op {
	case api.OpWrite, api.OpPwrite:
		c.A = strings.Repeat(string(rune('a'+r.IntN(26))), r.IntN(40))
	case api.OpSeek:
		c.Flag, c.Off = r.IntN(3), c.Off-20
	case api.OpMkdir, api.OpLink, api.OpSymlink, api.OpRename:
		c.B = pick(r, c.B, c.B+"/"+pick(r, "a", "b", "c", "d"), somePath(r))
		if c.Op == api.OpMkdir {
			c.A = c.B
		}
	}
	switch r.IntN(60) {
	case 0:
		c.Fd = r.IntN(40) - 4
	case 1:
		c.N = pick[int64](r, -1, 65536, 1<<40, -1<<62)
	case 2:
		c.Op = r.IntN(24) - 2
	}
	return c
}

// world is both, and copies on their way.
type world struct {
	*both
	r       *rand.Rand
	copies  []*Copy
	crowded bool // inodes may be short
}

// full tells whether inodes may be short.
func (x *world) full() bool { return x.crowded || len(x.s.Lines()) > 60 }

// copying does something with copies: what is seen stays.
func (x *world) copying() {
	x.t.Helper()
	if len(x.copies) == 0 || x.r.IntN(4) == 0 {
		at := x.path(x.r)
		c, e := x.s.Begin(at)
		if st := x.m.Do(of(api.OpStat, at)); e != st.E && !(st.T.Kind == api.Dir && e == api.EISDIR) && !(x.full() && e == api.ENOSPC) || c != nil && (e != api.OK || st.T.Kind != api.File) {
			x.t.Fatalf("Begin %s: error %d, a copy %t; OpStat: %+v", at, e, c != nil, st)
		}
		if c != nil {
			x.copies = append(x.copies, c)
			x.begun++
		}
		x.same("Begin " + at)
		return
	}
	i := x.r.IntN(len(x.copies))
	c := x.copies[i]
	live := true
	for range x.r.IntN(6) {
		used := x.s.Used()
		whole, e := c.Step()
		if e != api.OK {
			if e != api.ENOSPC || !whole || used < x.room {
				x.t.Fatalf("Step with %d of %d chunks used: %t, error %d", used, x.room, whole, e)
			}
			live = false
			break
		}
	}
	switch {
	case !live:
	case x.r.IntN(3) == 0:
		c.Publish()
	case x.r.IntN(6) == 0:
		c.Drop()
	default:
		x.same("some steps")
		return
	}
	x.begun--
	x.same("the end of a copy")
	x.ended(c)
	x.copies = slices.Delete(x.copies, i, i+1)
}

// end ends all copies, closes all descriptors and takes all names away: then nothing may be left, whatever was done before.
func (x *world) end() {
	x.t.Helper()
	x.tellAll()
	for _, c := range x.copies {
		x.drop(c)
	}
	for _, fd := range x.s.Open() {
		x.all(on(api.OpClose, fd))
	}
	lines := x.lines()
	for _, l := range slices.Backward(lines) {
		if l.Kind == api.Dir {
			x.tight(of(api.OpRmdir, l.Path))
		} else {
			x.tight(of(api.OpUnlink, l.Path))
		}
	}
	if used := x.s.Used(); len(x.s.Lines()) == 0 && used != 0 {
		x.t.Fatalf("all is closed and taken away: %d chunks used", used)
	}
}

// tight does a call where space may be short; if it is, the model doesn't do it, or writes as much.
func (x *world) tight(c api.Call) api.Result {
	x.t.Helper()
	free, need := x.room-x.s.Used(), x.chunks(c)
	got := x.s.Do(c)
	isWrite := c.Op == api.OpWrite || c.Op == api.OpPwrite
	less := got.E == api.OK && isWrite && got.N < int64(len(c.A))
	if (got.E == api.ENOSPC || less) && free >= need && !x.full() {
		x.t.Fatalf("%+v: %+v, with %d free chunks, of %d needed", c, got, free, need)
	}
	if less {
		c.A = c.A[:got.N]
	}
	if got.E != api.ENOSPC {
		if want := x.m.Do(c); got != want {
			x.t.Fatalf("%+v: %+v; want %+v", c, short(got), short(want))
		}
	}
	x.same(c)
	return got
}

// chunks is how many a call may need at most: those of what it copies and those that it writes.
func (x *world) chunks(c api.Call) int {
	switch c.Op {
	case api.OpWrite, api.OpPwrite:
		return (len(c.A)+api.Chunk-2)/api.Chunk + 1
	case api.OpOpen:
		if c.Flag&w != 0 {
			return x.copied(c.A, true)
		}
	case api.OpCut:
		return x.copied(c.A, true)
	case api.OpLink, api.OpRename:
		return x.copied(c.A, false)
	}
	return 0
}

// copied is how many chunks the lower files have to which a path leads, or which are below what it leads to.
func (x *world) copied(text string, follow bool) int {
	p, e := path.Parse(text)
	if e != api.OK {
		return 0
	}
	// The model's tree tells where the path leads, and the lines tell what is there.
	found, e := walk.Walk(x.m.Branch(), p, follow)
	if e != api.OK || x.m.Branch().Kind(found.Ino) == api.Link {
		return 0
	}
	n := 0
	for _, line := range x.lines() {
		lp, _ := path.Parse(line.Path)
		at, _ := walk.Walk(x.m.Branch(), lp, false)
		if line.Kind == api.File && x.within(at.Dir, at.Ino, found.Ino) {
			n += x.lower(line)
		}
	}
	return n
}

// within tells whether an inode of the model, which is in a directory, is another one or is below it.
func (x *world) within(in, ino, top int) bool {
	for ino != top {
		if in == ino {
			return false
		}
		ino, in = in, x.m.Branch().Parent(in)
	}
	return true
}

// lower is how many chunks a file has that is still in the lower branch.
func (x *world) lower(line api.Line) int {
	if len(line.Path) > api.MaxPath {
		return 0
	}
	c, e := x.s.Begin(line.Path)
	if e != api.OK || c == nil {
		return 0
	}
	c.Drop()
	n := 0
	for part := range slices.Chunk([]byte(line.Data), api.Chunk) {
		if string(part) != zeros(len(part)) {
			n++
		}
	}
	return n
}

// newWorld makes a random one, with descriptors of what is there.
func newWorld(t *testing.T, r *rand.Rand, room, free int) *world {
	t.Helper()
	for {
		over, low := grown(r, r.IntN(16), true), grown(r, r.IntN(40), false)
		if free >= 0 {
			over = crowd(over, free)
		}
		s, e := New(over, low, api.MaxRoom)
		if e != api.OK || len(s.Lines()) < 4 {
			continue
		}
		x := &world{both: newBoth(t, over, low, min(api.MaxRoom, s.Used()+room)), r: r, crowded: free >= 0}
		for _, line := range x.lines() {
			if r.IntN(3) > 0 {
				x.tight(openAs(pick(r, 1, 1, 3), line.Path))
			}
			if r.IntN(3) == 0 {
				x.tight(of(api.OpOpendir, line.Path))
			}
		}
		return x
	}
}

// play does calls, and something with copies in between.
func (x *world) play(calls int, ends map[int]int) {
	x.t.Helper()
	for range calls {
		c := x.someCall(x.r)
		switch got := x.tight(c); got.E {
		case api.OK:
			ends[c.Op]++
		case api.ENOSPC:
			ends[-c.Op]++
		}
		if x.r.IntN(4) == 0 {
			x.copying()
		}
	}
	x.end()
}

// often tells whether calls have come to the ends often enough for a test.
func often(t *testing.T, ends map[int]int, least int, ops ...int) {
	t.Helper()
	for _, op := range ops {
		if ends[op] < least {
			t.Errorf("Op %d came to this end %d times only", op, ends[op])
		}
	}
}

// TestRandom: P13.2, P13.4, P13.5: trees of all shapes, and calls and copies one after the other, where there is space.
func TestRandom(t *testing.T) {
	t.Parallel()
	ends := map[int]int{}
	for seed := range uint64(160) {
		newWorld(t, rand.New(rand.NewPCG(seed, 13)), api.MaxRoom, -1).play(100, ends)
	}
	for op := 1; op <= 20; op++ {
		often(t, ends, 10, op)
	}
}

// TestRandomRoom: P13.3: the same, where there is little room.
func TestRandomRoom(t *testing.T) {
	t.Parallel()
	ends := map[int]int{}
	for seed := range uint64(160) {
		r := rand.New(rand.NewPCG(seed, 133))
		newWorld(t, r, r.IntN(5), -1).play(100, ends)
	}
	often(t, ends, 10, -api.OpOpen, -api.OpCut, -api.OpWrite, -api.OpPwrite, -api.OpRename, -api.OpLink)
}

// TestRandomInodes: P13.3: the same, where there are few inodes: whatever can't be done, the lines stay the model's.
func TestRandomInodes(t *testing.T) {
	t.Parallel()
	ends := map[int]int{}
	for seed := range uint64(160) {
		r := rand.New(rand.NewPCG(seed, 1333))
		newWorld(t, r, 50, r.IntN(14)).play(100, ends)
	}
	often(t, ends, 10, -api.OpOpen, -api.OpMkdir, -api.OpUnlink, -api.OpLink, -api.OpSymlink, -api.OpRename)
}

// TestAgain: P13.2: the same calls in the same order give the same results.
func TestAgain(t *testing.T) {
	one, other := watched(t), watched(t)
	r := rand.New(rand.NewPCG(1, 99))
	for range 2000 {
		c := one.someCall(r)
		if x, y := one.s.Do(c), other.s.Do(c); x != y {
			t.Fatalf("%+v: %+v, and %+v", c, x, y)
		}
		one.m.Do(c)
	}
}
