package flat

import (
	"math"
	"slices"
	"strconv"
	"strings"
	"testing"

	"veneer/api"
	"veneer/branch"
	"veneer/merge"
)

// zeros is a text of zero bytes.
func zeros(n int) string { return strings.Repeat("\x00", n) }

// alone holds the lines of a side, as the upper branch over nothing and as the lower one under nothing.
func (s *side) alone(want ...api.Line) {
	s.t.Helper()
	is(s.t, "as the upper branch", Of(merge.New(s.b, branch.New(0), 1, 1)), want)
	is(s.t, "as the lower branch", Of(merge.New(branch.New(0), s.b, 1, 1)), want)
	s.whole("asked")
}

// fails holds Tree to an error, beside which there is no branch.
func fails(t *testing.T, l []api.Line, room int, want api.Errno) {
	t.Helper()
	if b, e := Tree(l, room); b != nil || e != want {
		t.Errorf("%s in %d: a branch %t, error %d; want %d", all(l), room, b != nil, e, want)
	}
	grows(t, all(l), l, room)
}

// all are lines in words.
func all(l []api.Line) string {
	var text []string
	for _, x := range l[:min(len(l), 5)] {
		text = append(text, told(x))
	}
	return strconv.Itoa(len(l)) + " lines " + strings.Join(text, ", ")
}

// yields holds Tree to a branch that has these lines.
func yields(t *testing.T, l []api.Line, room int, want ...api.Line) *branch.Branch {
	t.Helper()
	b, e := grows(t, all(l), l, room)
	if e != api.OK {
		t.Fatalf("%s in %d: error %d", all(l), room, e)
	}
	is(t, all(l), Of(merge.New(b, branch.New(0), 1, 1)), want)
	is(t, all(l), Of(merge.New(branch.New(0), b, 1, 1)), want)
	return b
}

func file(p, text string) api.Line { return api.Line{Path: p, Kind: api.File, Data: text} }
func link(p, to string) api.Line   { return api.Line{Path: p, Kind: api.Link, Data: to} }
func dir(p string) api.Line        { return api.Line{Path: p, Kind: api.Dir} }

// TestExamples: the chapter's examples.
func TestExamples(t *testing.T) {
	l := []api.Line{dir("/a"), file("/a/b", "x"), link("/c", "a")}
	b := yields(t, l, 1, l...)
	a, _ := b.Get(1, "a")
	f, _ := b.Get(a, "b")
	c, _ := b.Get(1, "c")
	if a != 2 || f != 3 || c != 4 {
		t.Errorf("inodes %d, %d, %d", a, f, c)
	}
	fails(t, []api.Line{file("/a/b", "")}, 1, api.ENOENT)
	fails(t, []api.Line{{Path: "/a", Kind: api.White}}, 1, api.EINVAL)
	fails(t, []api.Line{dir("/a"), {Path: "/b", Kind: api.White}}, 1, api.EINVAL)
}

// TestReadme: the example of the README.
func TestReadme(t *testing.T) {
	lower, e := Tree([]api.Line{{Path: "/a", Kind: api.Dir}, {Path: "/a/f", Kind: api.File, Data: "hi"}, {Path: "/l", Kind: api.Link, Data: "a"}}, 8)
	upper, f := Tree([]api.Line{{Path: "/a", Kind: api.Dir}, {Path: "/a/g", Kind: api.File}}, 8)
	if e != api.OK || f != api.OK || lower.Inodes() != 4 || lower.Used() != 1 {
		t.Fatalf("%d, %d, %d inodes, %d chunks", e, f, lower.Inodes(), lower.Used())
	}
	l := Of(merge.New(upper, lower, 1, 1))
	is(t, "both", l, []api.Line{dir("/a"), file("/a/f", "hi"), file("/a/g", ""), link("/l", "a")})
	if Same(l, l[:3]) || Text(l[:2]) != "/a\x002\x00\n/a/f\x001hi\x00\n" {
		t.Errorf("%q", Text(l[:2]))
	}
	fails(t, l[1:], 8, api.ENOENT)
}

// TestOfNothing: P11.1: a view without names, or whose root has no kind, has no lines.
func TestOfNothing(t *testing.T) {
	u, l := newSide(t), newSide(t)
	views(t, u, l)
	u.put("f", api.File, "text")
	u.put("l", api.Link, "f")
	u.put("w", api.White, "")
	u.dir("e")
	l.put("f", api.File, "text")
	l.put("l", api.Link, "f")
	l.put("w", api.White, "")
	l.dir("e")
	for _, a := range []int{0, -1, 2, 3, 4, 6, 200, 201, math.MinInt, math.MaxInt, 5} {
		for _, b := range []int{0, -1, 2, 3, 4, 6, 200, 201, math.MinInt, math.MaxInt, 5} {
			if got := Of(merge.New(u.b, l.b, a, b)); len(got) != 0 {
				t.Errorf("roots %d, %d: %s", a, b, all(got))
			}
		}
	}
	if got := Of(merge.New(nil, l.b, 1, 1)); len(got) != 0 {
		t.Errorf("no view: %s", all(got))
	}
	// A directory that was taken away, and is held, has no names.
	l.b.Hold(5)
	l.b.Rmdir(1, "e")
	if got := Of(merge.New(u.b, l.b, 0, 5)); len(got) != 0 {
		t.Errorf("taken away: %s", all(got))
	}
	u.whole("upper")
}

// TestOfOne: P11.1: one branch alone, with each kind.
func TestOfOne(t *testing.T) {
	s := newSide(t)
	s.put("w", api.White, "")
	s.dir("d")
	s.put("d/w", api.White, "")
	s.put("d/l", api.Link, "../nowhere/")
	s.put("d/f", api.File, "some text")
	s.dir("d/e")
	s.put("a", api.File, "")
	s.put("b", api.Link, "d")
	s.alone(file("/a", ""), link("/b", "d"), dir("/d"), dir("/d/e"), file("/d/f", "some text"), link("/d/l", "../nowhere/"))
}

// TestOfBytes: P11.1: files of no byte, of many chunks, with holes, of zero bytes, and as great as may be; links as long as may be.
func TestOfBytes(t *testing.T) {
	s := newSide(t)
	full := strings.Repeat("0123456789\x00\n\xff /a", api.MaxFile/16)
	long := strings.Repeat("../", 133) + "\x00"
	s.put("empty", api.File, "")
	s.put("chunk", api.File, "0123456789abcdef")
	s.put("more", api.File, "0123456789abcdefg")
	s.put("zero", api.File, zeros(16))
	s.put("zeros", api.File, "x"+zeros(40))
	s.put("great", api.File, full)
	s.put("hole", api.File, "")
	s.write("hole", 50, "end")
	s.put("holes", api.File, "beginning")
	s.write("holes", 64, "middle")
	s.write("holes", 5000, zeros(20))
	s.put("last", api.File, "")
	s.write("last", api.MaxFile-1, "!")
	s.put("long", api.Link, long)
	s.put("nothing", api.File, "")
	s.b.Cut(12, 33)
	dir, _ := s.in("nothing")
	dir.names["nothing"].text = zeros(33)
	want := []api.Line{
		file("/chunk", "0123456789abcdef"), file("/empty", ""), file("/great", full), file("/hole", zeros(50)+"end"), file("/holes", "beginning"+zeros(55)+"middle"+zeros(5000-70+20)),
		file("/last", zeros(api.MaxFile-1)+"!"), link("/long", long), file("/more", "0123456789abcdefg"), file("/nothing", zeros(33)), file("/zero", zeros(16)), file("/zeros", "x"+zeros(40)),
	}
	s.alone(want...)
	views(t, s, newSide(t))
	yields(t, want, api.MaxRoom, want...)
}

// TestOfNames: P11.1: each name of a file has a line with all of it.
func TestOfNames(t *testing.T) {
	s := newSide(t)
	s.dir("d")
	s.dir("d/e")
	s.put("d/f", api.File, "text of a file that has names")
	s.put("l", api.Link, "to")
	var want []api.Line
	for i := range 19 {
		s.again("d/f", "d/e/"+strconv.Itoa(10+i))
		want = append(want, file("/d/e/"+strconv.Itoa(10+i), "text of a file that has names"))
	}
	s.again("l", "d/a")
	want = slices.Concat([]api.Line{dir("/d"), link("/d/a", "to"), dir("/d/e")}, want, []api.Line{file("/d/f", "text of a file that has names"), link("/l", "to")})
	s.alone(want...)
	if s.b.Used() != 2 || s.b.Inodes() != 5 {
		t.Errorf("%d chunks, %d inodes", s.b.Used(), s.b.Inodes())
	}
	// Built again, each is a file of its own.
	b := yields(t, want, api.MaxRoom, want...)
	if b.Used() != 40 || b.Inodes() != 25 {
		t.Errorf("%d chunks, %d inodes", b.Used(), b.Inodes())
	}
	// So are those that a name of the upper branch hides, and those that it doesn't.
	u := newSide(t)
	u.dir("d")
	u.dir("d/e")
	u.put("d/e/12", api.File, "other")
	u.put("d/e/13", api.White, "")
	u.put("d/f", api.White, "")
	views(t, u, s)
}

// TestOfMerged: P11.1: two branches as one, with Whites and Opaque directories.
func TestOfMerged(t *testing.T) {
	u, l := newSide(t), newSide(t)
	for _, top := range []string{"a", "b", "c", "d", "e"} {
		l.dir(top)
		l.put(top+"/f", api.File, "lower "+top)
		l.put(top+"/l", api.Link, "lower")
		l.dir(top + "/d")
		l.put(top+"/d/g", api.File, "")
		l.put(top+"/w", api.White, "")
	}
	u.dir("a")
	u.put("a/g", api.File, "upper")
	u.put("a/f", api.File, "")
	u.dir("a/d")
	u.put("a/d/g", api.White, "")
	u.opaque("b")
	u.dir("b/d")
	u.put("b/d/h", api.Link, "upper")
	u.put("c", api.White, "")
	u.put("d", api.File, "file over a directory")
	u.dir("f")
	u.dir("w")
	u.put("w/x", api.File, "")
	l.put("f", api.File, "hidden by a directory")
	l.put("w", api.White, "")
	want := []api.Line{
		dir("/a"), dir("/a/d"), file("/a/f", ""), file("/a/g", "upper"), link("/a/l", "lower"), dir("/b"), dir("/b/d"), link("/b/d/h", "upper"), file("/d", "file over a directory"),
		dir("/e"), dir("/e/d"), file("/e/d/g", ""), file("/e/f", "lower e"), link("/e/l", "lower"), dir("/f"), dir("/w"), file("/w/x", ""),
	}
	is(t, "merged", Of(merge.New(u.b, l.b, 1, 1)), want)
	views(t, u, l)
	yields(t, want, api.MaxRoom, want...)
	// The branches' marks, where they hide nothing, change nothing.
	u.b.Mark(2, 2)
	l.b.Mark(2, api.Opaque)
	l.b.Mark(3, api.Opaque)
	is(t, "marked otherwise", Of(merge.New(u.b, l.b, 1, 1)), want)
	u.b.Mark(1, api.Opaque)
	u.top.opaque = true
	is(t, "an opaque root", Of(merge.New(u.b, l.b, 1, 1)), []api.Line{
		dir("/a"), dir("/a/d"), file("/a/f", ""), file("/a/g", "upper"), dir("/b"), dir("/b/d"), link("/b/d/h", "upper"), file("/d", "file over a directory"), dir("/f"), dir("/w"), file("/w/x", ""),
	})
}

// TestOfRoot: P11.1: paths begin at the view's root, which may be any directory of each branch.
func TestOfRoot(t *testing.T) {
	u, l := newSide(t), newSide(t)
	u.dir("top")
	u.dir("top/in")
	u.put("top/in/x", api.File, "upper")
	u.put("beside", api.File, "")
	l.dir("pad")
	l.dir("low")
	l.put("low/x", api.File, "lower")
	l.put("low/y", api.Link, "x")
	v := func(a, b int, want ...api.Line) {
		t.Helper()
		is(t, "roots "+strconv.Itoa(a)+", "+strconv.Itoa(b), Of(merge.New(u.b, l.b, a, b)), want)
	}
	v(3, 3, file("/x", "upper"), link("/y", "x"))
	v(3, 0, file("/x", "upper"))
	v(0, 3, file("/x", "lower"), link("/y", "x"))
	v(2, 3, dir("/in"), file("/in/x", "upper"), file("/x", "lower"), link("/y", "x"))
	v(3, 1, dir("/low"), file("/low/x", "lower"), link("/low/y", "x"), dir("/pad"), file("/x", "upper"))
	v(3, 2, file("/x", "upper"))
	v(4, 2)
	u.b.Mark(3, 3)
	v(3, 3, file("/x", "upper"))
	// The two branches may be one.
	is(t, "one branch", Of(merge.New(l.b, l.b, 2, 3)), []api.Line{file("/x", "lower"), link("/y", "x")})
}

// TestOrder: P11.1: a directory's line is ahead of those of its names, which are in order, at every depth, whatever bytes they have.
func TestOrder(t *testing.T) {
	names := []string{"\x01", " ", "!", "-", ".a", "...", "0", "10", "2", "A", "a", "a!", "a-", "a.", "a0", "aa", "\x7f", "é", "\xff"}
	sorted := slices.Clone(names)
	slices.Sort(sorted)
	u, l := newSide(t), newSide(t)
	slices.Reverse(names)
	for i, name := range names {
		s, o := u, l
		if i%3 == 0 {
			s, o = l, u
		}
		s.dir(name)
		for j, inner := range []string{"a.", "a", "a0"} {
			if j == 1 && i%2 == 0 {
				o.dir(name)
				o.dir(name + "/" + inner)
				o.put(name+"/"+inner+"/z", api.File, "z")
				continue
			}
			s.dir(name + "/" + inner)
			s.put(name+"/"+inner+"/z", api.File, "z")
		}
	}
	var want []api.Line
	for _, name := range sorted {
		want = append(want, dir("/"+name))
		for _, inner := range []string{"a", "a.", "a0"} {
			want = append(want, dir("/"+name+"/"+inner), file("/"+name+"/"+inner+"/z", "z"))
		}
	}
	is(t, "order", Of(merge.New(u.b, l.b, 1, 1)), want)
	views(t, u, l)
	yields(t, want, api.MaxRoom, want...)
}

// TestDeep: P11.1, P11.2: a tree may be deeper, and its paths longer, than those of lines from which a branch is built.
func TestDeep(t *testing.T) {
	u, l := newSide(t), newSide(t)
	at, low := "d", "d"
	u.dir(at)
	l.dir(low)
	want := []api.Line{dir("/d")}
	for range 98 {
		at, low = at+"/d", low+"/d"
		u.dir(at)
		l.dir(low)
		want = append(want, dir("/"+at))
	}
	for range 100 {
		low += "/d"
		l.dir(low)
		want = append(want, dir("/"+low))
	}
	got := Of(merge.New(u.b, l.b, 1, 1))
	is(t, "deep", got, want)
	yields(t, got[:40], 0, got[:40]...)
	fails(t, got, 0, api.EINVAL)
	s := newSide(t)
	long := strings.Repeat("n", 60)
	at = long
	s.dir(at)
	for range 9 {
		at += "/" + long
		s.dir(at)
	}
	got = Of(merge.New(s.b, l.b, 1, 0))
	if len(got) != 10 || got[9].Path != "/"+at {
		t.Fatalf("long paths: %d", len(got))
	}
	yields(t, got[:6], 0, got[:6]...)
	fails(t, got, 0, api.EINVAL)
	views(t, s, l)
}

// TestOfMany: P11.1: as many names as two branches have inodes, and more lines than a branch takes.
func TestOfMany(t *testing.T) {
	u, l := newSide(t), newSide(t)
	for i := range 199 {
		u.put("u"+strconv.Itoa(100+i), api.File, strings.Repeat("u", i))
		l.put("l"+strconv.Itoa(100+i), api.File, strings.Repeat("l", i))
	}
	got := Of(merge.New(u.b, l.b, 1, 1))
	if len(got) != 398 || got[0].Path != "/l100" || got[397] != file("/u298", strings.Repeat("u", 198)) {
		t.Fatalf("%s", all(got))
	}
	views(t, u, l)
	fails(t, got, api.MaxRoom, api.ENOSPC)
	yields(t, got[:199], api.MaxRoom, got[:199]...)
}

// TestRoom: P11.2: rooms below 0, of 0, that are just enough and not, and beyond what branch.New takes.
func TestRoom(t *testing.T) {
	good := []api.Line{dir("/d"), file("/d/f", strings.Repeat("x", 40)), file("/g", ""), link("/l", "d"), file("/z", zeros(17))}
	for _, room := range []int{-1, -2, math.MinInt, api.MaxRoom + 1, 1 << 32, math.MaxInt} {
		for _, l := range [][]api.Line{nil, {}, good, {file("/a/b", "")}, {file("", "")}} {
			fails(t, l, room, api.EINVAL)
		}
	}
	for _, room := range []int{0, 1, api.MaxRoom} {
		for _, l := range [][]api.Line{nil, {}} {
			if b := yields(t, l, room); b.Inodes() != 1 || b.Used() != 0 {
				t.Errorf("%d inodes, %d chunks", b.Inodes(), b.Used())
			}
		}
	}
	// Zero bytes need chunks as others do.
	for room := range 5 {
		fails(t, good, room, api.ENOSPC)
	}
	for _, room := range []int{5, 6, api.MaxRoom} {
		if b := yields(t, good, room, good...); b.Used() != 5 || b.Inodes() != 6 {
			t.Errorf("room %d: %d chunks, %d inodes", room, b.Used(), b.Inodes())
		}
	}
	for n, chunks := range map[int]int{1: 1, 15: 1, 16: 1, 17: 2, 32: 2, 33: 3, api.MaxFile - 1: 4096, api.MaxFile: 4096} {
		for _, text := range []string{zeros(n), strings.Repeat("x", n)} {
			fails(t, []api.Line{file("/f", text)}, chunks-1, api.ENOSPC)
			fails(t, []api.Line{file("/f", text)}, 0, api.ENOSPC)
			if b := yields(t, []api.Line{file("/f", text)}, chunks, file("/f", text)); b.Used() != chunks {
				t.Errorf("%d bytes: %d chunks", n, b.Used())
			}
		}
	}
	// What needs no chunk has room in none.
	none := []api.Line{dir("/d"), file("/d/f", ""), link("/d/l", strings.Repeat("l", 400))}
	yields(t, none, 0, none...)
	// More bytes than a file has aren't all written, whatever the room.
	for _, n := range []int{api.MaxFile + 1, api.MaxFile + 16, 1 << 20} {
		fails(t, []api.Line{file("/f", strings.Repeat("x", n))}, api.MaxRoom, api.ENOSPC)
	}
	// The branch has the room that was asked for, and no other.
	b := yields(t, good, 6, good...)
	if n, e := b.Write(4, 0, []byte(strings.Repeat("y", 40))); n != 16 || e != api.OK {
		t.Errorf("%d bytes were written, %d", n, e)
	}
}

// TestPaths: P11.2: what a line's path may be.
func TestPaths(t *testing.T) {
	long := strings.Repeat("n", 60)
	a := dir("/a")
	for _, p := range []string{"/a", "//a", "/a/", "/a//", "/./a", "/a/.", "/.//a/./", "///./a"} {
		yields(t, []api.Line{dir(p)}, 1, a)
		yields(t, []api.Line{file(p, "x")}, 1, file("/a", "x"))
		yields(t, []api.Line{link(p, "x")}, 1, link("/a", "x"))
	}
	for _, p := range []string{"/a/b", "/a//b", "//a/b/", "/a/./b", "/./a/b/.", "/a/b//"} {
		yields(t, []api.Line{a, file(p, "x")}, 1, a, file("/a/b", "x"))
	}
	for _, p := range []string{"", "/", "//", "/.", "/./", "/..", "/../", "/../.", "/a/..", "/a/../", "/a/../.", ".", "..", "a", "a/", "./a", "../a", " /a", "a/b", "\x00", "/\x00", "/a\x00", "/b\x00/c", "\x00/a", "/a/b\x00", "/" + long + "n", "/a/" + long + "n", "/" + long + "n/a", "/a/" + long + "n/..", "/" + strings.Repeat("n", 401), strings.Repeat("/", 401) + "a", strings.Repeat("/", 401), "/b/" + strings.Repeat("/", 400), strings.Repeat("/a", 41), strings.Repeat("/a", 42), strings.Repeat("a/", 40), strings.Repeat("/./", 134) + "a"} {
		for _, kind := range []int{api.File, api.Dir, api.Link, api.White, 0} {
			fails(t, []api.Line{{Path: p, Kind: kind, Data: "x"}}, 1, api.EINVAL)
			fails(t, []api.Line{a, {Path: p, Kind: kind, Data: "x"}, file("/b", "")}, 0, api.EINVAL)
		}
	}
	for _, p := range []string{"/a/../b", "/../b", "/../../b", "/a/../a", "/./../b"} {
		fails(t, []api.Line{a, file(p, "")}, 1, api.ENOENT)
	}
	for _, name := range []string{long, "...", ".a", "a.", "..a", " ", "\x01", "\n", "\xff", "\\", "日本"} {
		yields(t, []api.Line{dir("/" + name), file("/"+name+"/"+name, name)}, 4, dir("/"+name), file("/"+name+"/"+name, name))
	}
	yields(t, []api.Line{file(strings.Repeat("/", 399)+"a", "")}, 1, file("/a", ""))
	yields(t, []api.Line{file(strings.Repeat("/.", 199)+"/a", "")}, 1, file("/a", ""))
	fails(t, []api.Line{file(strings.Repeat("/", 400), "")}, 1, api.EINVAL)
	var l []api.Line
	for i := range 40 {
		l = append(l, dir(strings.Repeat("/a", i+1)))
	}
	yields(t, l, 1, l...)
	l[39].Kind = api.File
	yields(t, l, 1, l...)
	fails(t, append(l[:39:39], dir(strings.Repeat("/a", 41))), 1, api.EINVAL)
	// 400 bytes, of which the last name has 34.
	l = nil
	for i := range 6 {
		l = append(l, dir(strings.Repeat("/"+long, i+1)))
	}
	l = append(l, file(l[5].Path+"/"+strings.Repeat("n", 33), ""))
	yields(t, l, 1, l...)
	l[6].Path += "n"
	fails(t, l, 1, api.EINVAL)
}

// TestDirs: P11.2: a line's directory must have had its line, and be a directory.
func TestDirs(t *testing.T) {
	deep := []api.Line{dir("/a"), dir("/a/b"), file("/a/f", "x"), link("/a/l", "b"), link("/l", "/a"), dir("/a/b/c")}
	yields(t, deep, 1, deep[0], deep[1], deep[5], deep[2], deep[3], deep[4])
	for p, want := range map[string]api.Errno{
		"/b/x": api.ENOENT, "/a/c/x": api.ENOENT, "/a/b/d/x": api.ENOENT, "/b/b/b/x": api.ENOENT, "/A/x": api.ENOENT, "/a/b/c/c/x": api.ENOENT, "/a/../x": api.ENOENT, "/a/b/../../l/x": api.ENOENT,
		"/a/f/x": api.ENOTDIR, "/a/l/x": api.ENOTDIR, "/l/x": api.ENOTDIR, "/l/b/x": api.ENOTDIR, "/a/f/x/x": api.ENOTDIR, "/a/l/c/x": api.ENOTDIR, "/l/nothing/x": api.ENOTDIR, "/a/f/../x": api.ENOTDIR,
		"/a/f": api.EEXIST, "/a/b/c": api.EEXIST, "/l": api.EEXIST, "/a": api.EEXIST, "/a/l/.": api.EEXIST, "//a//b//": api.EEXIST,
	} {
		for _, kind := range []int{api.File, api.Dir, api.Link, api.White, 0, -1, 5} {
			e := want
			if want == api.EEXIST && (kind < api.File || kind > api.Link) {
				e = api.EINVAL // the kind is looked at before branch.Make
			}
			fails(t, append(slices.Clone(deep), api.Line{Path: p, Kind: kind, Data: "x"}), 9, e)
			fails(t, append(slices.Clone(deep), api.Line{Path: p, Kind: kind}), 9, e)
		}
	}
	// The order of the lines counts, not what is there in the end.
	fails(t, []api.Line{file("/a/f", "x"), dir("/a")}, 1, api.ENOENT)
	fails(t, []api.Line{dir("/a"), file("/a/b/f", "x"), dir("/a/b")}, 1, api.ENOENT)
	yields(t, []api.Line{dir("/b"), dir("/a"), file("/b/f", "x"), dir("/a/d")}, 1, dir("/a"), dir("/a/d"), dir("/b"), file("/b/f", "x"))
}

// TestTwice: P11.2: a path may come once, however it is written, and whatever is there.
func TestTwice(t *testing.T) {
	kinds := []api.Line{dir("/a"), file("/a", ""), file("/a", "x"), link("/a", "x")}
	for _, one := range kinds {
		for _, two := range kinds {
			for _, p := range []string{"/a", "//a", "/a/", "/a/.", "/./a"} {
				two.Path = p
				fails(t, []api.Line{one, two}, 4, api.EEXIST)
				fails(t, []api.Line{one, dir("/b"), two, file("", "")}, 4, api.EEXIST)
			}
		}
	}
	yields(t, []api.Line{dir("/a"), dir("/A"), dir("/a "), dir("/a/a")}, 0, dir("/A"), dir("/a"), dir("/a/a"), dir("/a "))
}

// TestKinds: P11.2: the kinds that a line may not have; what is wrong with its directory is told first.
func TestKinds(t *testing.T) {
	for _, kind := range []int{0, api.White, 5, 6, 7, -1, -2, -3, 255, 256, 257, 258, 259, 1 << 32, 1<<32 + 1, 1<<32 + 2, 1<<32 + 3, math.MinInt, math.MinInt + 1, math.MaxInt} {
		for _, text := range []string{"", "x", "o"} {
			x := api.Line{Path: "/a", Kind: kind, Data: text}
			fails(t, []api.Line{x}, 1, api.EINVAL)
			fails(t, []api.Line{dir("/b"), x}, 1, api.EINVAL)
			fails(t, []api.Line{file("/a", ""), x}, 1, api.EINVAL)
			x.Path = "/a/b"
			fails(t, []api.Line{x}, 1, api.ENOENT)
			fails(t, []api.Line{file("/a", ""), x}, 1, api.ENOTDIR)
			fails(t, []api.Line{link("/a", "b"), x}, 1, api.ENOTDIR)
			fails(t, []api.Line{dir("/a"), x}, 1, api.EINVAL)
		}
	}
}

// TestData: P11.2: data of a directory aren't looked at; a link's target must be one that branch.Make takes; a file takes any bytes.
func TestData(t *testing.T) {
	for _, text := range []string{"x", "o", "\x00", strings.Repeat("x", 401), strings.Repeat("x", 70000)} {
		b := yields(t, []api.Line{{Path: "/a", Kind: api.Dir, Data: text}, file("/a/f", "")}, 0, dir("/a"), file("/a/f", ""))
		if b.Marks(2) != 0 || b.Used() != 0 {
			t.Errorf("marks %d, %d chunks", b.Marks(2), b.Used())
		}
	}
	for _, to := range []string{"x", "/", "..", "\x00", "a\x00b\n", " ", "\xff", strings.Repeat("/", 400), strings.Repeat("n", 400)} {
		yields(t, []api.Line{link("/l", to)}, 0, link("/l", to))
	}
	for _, to := range []string{"", strings.Repeat("/", 401), strings.Repeat("n", 401), strings.Repeat("n", 70000)} {
		fails(t, []api.Line{link("/l", to)}, 9, api.EINVAL)
		fails(t, []api.Line{dir("/d"), link("/d/l", to), file("/f", "x")}, 0, api.EINVAL)
		fails(t, []api.Line{dir("/l"), link("/l", to)}, 9, api.EEXIST)
		fails(t, []api.Line{link("/d/l", to)}, 9, api.ENOENT)
		fails(t, []api.Line{file("/d", ""), link("/d/l", to)}, 9, api.ENOTDIR)
	}
	for _, text := range []string{"\x00", "\n", "\xff\xfe", "\r\n", "é", zeros(16), zeros(100), "x" + zeros(100), zeros(100) + "x"} {
		yields(t, []api.Line{file("/f", text)}, 9, file("/f", text))
	}
}

// many are so many lines without bytes.
func many(n int) []api.Line {
	var l []api.Line
	for i := range n {
		p := "/" + strconv.Itoa(1000+i)
		l = append(l, []api.Line{dir(p), file(p, ""), link(p, "to")}[i%3])
	}
	return l
}

// TestMany: P11.2: as many lines as a branch has inodes beside its root, and more.
func TestMany(t *testing.T) {
	l := many(199)
	if b := yields(t, l, 0, l...); b.Inodes() != 200 {
		t.Errorf("%d inodes", b.Inodes())
	}
	for _, n := range []int{200, 201, 1000} {
		fails(t, many(n), 9, api.ENOSPC)
	}
	// ENOSPC is the last one that branch.Make tells of an inode.
	for x, want := range map[api.Line]api.Errno{
		link("/l", ""): api.EINVAL, link("/l", "to"): api.ENOSPC, dir("/d"): api.ENOSPC, file("/f", ""): api.ENOSPC, file("/f", "x"): api.ENOSPC,
		{Path: "/w", Kind: api.White}: api.EINVAL, dir("/1000"): api.EEXIST, file("/1001/x", ""): api.ENOTDIR, file("/1002/x", ""): api.ENOTDIR, file("/x/x", ""): api.ENOENT, file("/1000/x", ""): api.ENOSPC, file("x", ""): api.EINVAL,
	} {
		fails(t, append(many(199), x), 9, want)
		fails(t, append(many(199), x, file("/a/../b", "")), 9, want)
	}
}

// TestFirst: P11.2: of several wrong lines, the first one's error is told.
func TestFirst(t *testing.T) {
	wrong := map[api.Errno][]api.Line{
		api.EINVAL:  {file("", ""), file("a", "x"), dir("/"), link("/l", ""), {Path: "/w", Kind: api.White}, {Path: "/w"}},
		api.ENOENT:  {file("/no/x", "x"), dir("/no/x"), link("/d/../x", "x")},
		api.ENOTDIR: {file("/f/x", "x"), dir("/l2/x"), {Path: "/f/x", Kind: 9}},
		api.EEXIST:  {dir("/d"), file("/f", "x"), link("/l2", "x"), link("/f", "")},
		api.ENOSPC:  {file("/new", "more than one chunk"), file("/d/new", zeros(17)), file("/d/new", strings.Repeat("x", 65537))},
	}
	good := []api.Line{dir("/d"), file("/f", ""), link("/l2", "f")}
	for e, some := range wrong {
		for _, x := range some {
			for _, others := range wrong {
				for _, y := range others {
					fails(t, append(slices.Clone(good), x, y), 1, e)
					fails(t, append(slices.Clone(good), dir("/e"), x, dir("/g"), y, y), 1, e)
				}
			}
		}
	}
}

// TestFullRoom: P11.2: once a file has no room the list ends there, though later ones would need none.
func TestFullRoom(t *testing.T) {
	l := []api.Line{file("/a", strings.Repeat("x", 16)), file("/b", "y"), file("/c", "")}
	fails(t, l, 1, api.ENOSPC)                         // no byte of b
	fails(t, []api.Line{file("/a", zeros(17))}, 1, 28) // one byte too few
	yields(t, l, 2, l...)
	yields(t, []api.Line{l[0], l[2]}, 1, l[0], l[2])
}

// TestSame: P11.3: lines are the same if each is, in its path, kind and data, and there are as many.
func TestSame(t *testing.T) {
	l := []api.Line{dir("/a"), file("/a/b", "x"), link("/c", "a"), file("/d", "")}
	if !Same(l, slices.Clone(l)) || !Same(l, l) || !Same(nil, nil) || !Same(nil, []api.Line{}) || !Same([]api.Line{}, nil) || !Same([]api.Line{}, []api.Line{}) || !Same(l[:0], nil) {
		t.Errorf("what is the same isn't")
	}
	differ := func(a, b []api.Line) {
		t.Helper()
		if Same(a, b) || Same(b, a) {
			t.Errorf("the same: %s; %s", all(a), all(b))
		}
	}
	for n := range l {
		differ(l, l[:n])
		differ(l, slices.Delete(slices.Clone(l), n, n+1))
		differ(l, append(slices.Clone(l), l[n]))
		for _, change := range []func(*api.Line){
			func(x *api.Line) { x.Path += "/" }, func(x *api.Line) { x.Path = "" }, func(x *api.Line) { x.Path = "/" + x.Path }, func(x *api.Line) { x.Path = strings.ToUpper(x.Path) },
			func(x *api.Line) { x.Kind = 0 }, func(x *api.Line) { x.Kind += 256 }, func(x *api.Line) { x.Kind = -x.Kind }, func(x *api.Line) { x.Kind += 1 << 32 },
			func(x *api.Line) { x.Data += "\x00" }, func(x *api.Line) { x.Data += "x" }, func(x *api.Line) { x.Data = "other" },
		} {
			other := slices.Clone(l)
			change(&other[n])
			differ(l, other)
		}
	}
	for n := range l[1:] {
		other := slices.Clone(l)
		other[n], other[n+1] = other[n+1], other[n]
		differ(l, other)
	}
	differ(nil, []api.Line{{}})
	if !Same([]api.Line{{}, {Kind: -7}}, []api.Line{{}, {Kind: -7}}) {
		t.Errorf("strange lines aren't the same")
	}
}

// TestText: P11.3: the bytes for each kind, path and data.
func TestText(t *testing.T) {
	for _, x := range []struct {
		l    []api.Line
		want string
	}{
		{nil, ""}, {[]api.Line{}, ""}, {[]api.Line{{}}, "\x000\x00\n"}, {[]api.Line{{}, {}}, "\x000\x00\n\x000\x00\n"},
		{[]api.Line{dir("/a")}, "/a\x002\x00\n"}, {[]api.Line{file("/a", "x")}, "/a\x001x\x00\n"}, {[]api.Line{file("/a", "")}, "/a\x001\x00\n"}, {[]api.Line{link("/a", "../b")}, "/a\x003../b\x00\n"},
		{[]api.Line{{Path: "/a", Kind: api.White}}, "/a\x004\x00\n"}, {[]api.Line{{Path: "/a", Kind: api.Dir, Data: "o"}}, "/a\x002o\x00\n"},
		{[]api.Line{file("a\x00b\n", "\x00\n\xff")}, "a\x00b\n\x001\x00\n\xff\x00\n"},
		{[]api.Line{dir("/a"), file("/a/b", "x"), link("/c", "a")}, "/a\x002\x00\n/a/b\x001x\x00\n/c\x003a\x00\n"},
		{[]api.Line{file("/a\x00", zeros(2)), file("\n", "x\x00\n")}, "/a\x00\x001\x00\x00\x00\n\n\x001x\x00\n\x00\n"},
		{[]api.Line{link("/c", "a"), dir("/a")}, "/c\x003a\x00\n/a\x002\x00\n"},
	} {
		if got := Text(x.l); got != x.want {
			t.Errorf("Text of %s: %q; want %q", all(x.l), got, x.want)
		}
	}
	great := strings.Repeat("0123456789abcdef", 4096)
	if got := Text([]api.Line{file("/f", great), file("/g", great)}); got != "/f\x001"+great+"\x00\n/g\x001"+great+"\x00\n" {
		t.Errorf("Text of great files: %d bytes", len(got))
	}
}

// TestTextKinds: P11.3: of the sum of the digit 0 and a kind, the lowest 8 bits are the byte.
func TestTextKinds(t *testing.T) {
	for kind, want := range map[int]byte{
		0: '0', 1: '1', 4: '4', 9: '9', 10: ':', 79: 127, 80: 128, 206: 254, 207: 255, 208: 0, 209: 1, 255: '/', 256: '0', 257: '1', 512: '0',
		-1: '/', -47: 1, -48: 0, -49: 255, -255: '1', -256: '0', 1 << 32: '0', 1<<32 + 2: '2', 1<<62 + 3: '3', math.MaxInt: '/', math.MaxInt - 255: '0', math.MinInt: '0', math.MinInt + 4: '4',
	} {
		if got := Text([]api.Line{{Path: "/p", Kind: kind, Data: "d"}}); got != "/p\x00"+string([]byte{want})+"d\x00\n" {
			t.Errorf("kind %d: %q; want the byte %d", kind, got, want)
		}
	}
	for kind := range 1000 {
		if got := Text([]api.Line{{Kind: kind}}); len(got) != 4 || got[1] != byte((48+kind)%256) {
			t.Errorf("kind %d: %q", kind, got)
		}
	}
}

// TestKept: R3: what is handed in isn't changed, and what is returned shares no memory with it.
func TestKept(t *testing.T) {
	l := []api.Line{dir("/a"), file("/a/b", "text"), link("/c", "a")}
	kept := slices.Clone(l)
	b, _ := Tree(l, 9)
	for i := range l {
		l[i] = api.Line{Path: "spoilt", Kind: 9, Data: "spoilt"}
	}
	v := merge.New(b, branch.New(0), 1, 1)
	one, two := Of(v), Of(v)
	is(t, "the branch", one, kept)
	for i := range one {
		one[i] = api.Line{Path: "spoilt", Kind: 9, Data: "spoilt"}
	}
	_ = append(one[:0], dir("/more"), dir("/more"))
	is(t, "another list", two, kept)
	is(t, "the branch again", Of(v), kept)
	// What becomes of the branch is nothing to a list of its lines.
	b.Write(3, 0, []byte("TEXT"))
	b.Rename(1, "a", 1, "z")
	b.Unlink(1, "c")
	is(t, "the list", two, kept)
	is(t, "the changed branch", Of(v), []api.Line{dir("/z"), file("/z/b", "TEXT")})
	again := slices.Clone(kept)
	Same(kept, again)
	Text(kept)
	is(t, "the lists", kept, again)
	other, _ := Tree(kept, 9)
	is(t, "a branch of its own", Of(merge.New(other, b, 1, 0)), kept)
}

// TestAgain: R4, R5: the same lines yield the same branch, whatever was built in between.
func TestAgain(t *testing.T) {
	l := []api.Line{dir("/b"), dir("/a"), file("/b/f", "x"), link("/a/l", "y")}
	sorted := []api.Line{l[1], l[3], l[0], l[2]}
	for range 5 {
		b := yields(t, l, 1, sorted...)
		f, _ := b.Get(2, "f")
		k, _ := b.Get(3, "l")
		if f != 4 || k != 5 {
			t.Errorf("inodes %d, %d", f, k)
		}
		fails(t, many(300), 1, api.ENOSPC)
	}
}

// TestRebuilt: P11.4: the lines of merged branches, built again, are seen over and under an empty branch, and over and under themselves.
func TestRebuilt(t *testing.T) {
	u, l := newSide(t), newSide(t)
	for _, s := range []*side{u, l} {
		s.dir("d")
		s.dir("d/e")
		s.put("d/l", api.Link, "e/f")
	}
	l.put("d/e/f", api.File, "lower file of some chunks, with a hole")
	l.write("d/e/f", 100, "end")
	l.again("d/e/f", "d/again")
	l.put("d/h", api.File, "")
	u.put("d/h", api.White, "")
	u.opaque("o")
	u.put("o/z", api.File, zeros(33))
	l.dir("o")
	l.put("o/y", api.File, "hidden")
	lines := Of(merge.New(u.b, l.b, 1, 1))
	one, two := rebuilt(t, lines), rebuilt(t, lines)
	is(t, "over itself", Of(merge.New(one, two, 1, 1)), lines)
	is(t, "over nothing", Of(merge.New(one, two, 1, 0)), lines)
	is(t, "under nothing", Of(merge.New(two, one, 0, 1)), lines)
	if !Same(lines, rebuiltLines(one)) || Text(lines) != Text(rebuiltLines(two)) {
		t.Errorf("Same or Text tells otherwise")
	}
	views(t, u, l)
}

// rebuiltLines are the lines of a branch alone.
func rebuiltLines(b *branch.Branch) []api.Line {
	return Of(merge.New(branch.New(api.MaxRoom), b, 1, 1))
}
