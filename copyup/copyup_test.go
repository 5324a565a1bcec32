package copyup

import (
	"math"
	"slices"
	"strconv"
	"strings"
	"testing"

	"veneer/api"
	"veneer/branch"
	"veneer/flat"
	"veneer/merge"
)

// is holds an error to one.
func is(t *testing.T, what string, e, want api.Errno) {
	t.Helper()
	if e != want {
		t.Fatalf("%s: error %d; want %d", what, e, want)
	}
}

// TestExamples: the chapter's examples.
func TestExamples(t *testing.T) {
	p := newPair(t, 8)
	p.under("a", api.Dir, "")
	p.under("a/b", api.File, "xy")
	is(t, "Up", p.up("a/b"), api.OK)
	a, b := p.top.names["a"], p.top.names["a"].names["b"]
	if a == nil || b == nil || b.text != "xy" || a.marks != 0 {
		t.Fatalf("%v, %v", a, b)
	}
	n := p.u.b.Inodes()
	is(t, "Hide", p.hide("a/c"), api.OK)
	is(t, "Chain", p.chain("a"), api.OK)
	if p.u.b.Inodes() != n {
		t.Errorf("%d inodes; want %d", p.u.b.Inodes(), n)
	}
	p = newPair(t, 8)
	p.under("a", api.Dir, "")
	p.under("a/b", api.File, "xy")
	p.under("a/c", api.File, "")
	p.over("a", api.Dir, "")
	p.over("a/c", api.White, "")
	is(t, "Deep", p.deep("a"), api.OK)
	if a := p.top.names["a"]; a.marks != api.Opaque || !slices.Equal(a.sorted(), []string{"b"}) || a.names["b"].text != "xy" {
		t.Errorf("%v", a)
	}
}

// TestReadme: the example of the README.
func TestReadme(t *testing.T) {
	lower, e := flat.Tree([]api.Line{{Path: "/a", Kind: api.Dir}, {Path: "/a/b", Kind: api.File, Data: "xy"}, {Path: "/a/d", Kind: api.Dir}, {Path: "/a/d/l", Kind: api.Link, Data: "../b"}, {Path: "/f", Kind: api.File}}, 8)
	is(t, "Tree", e, api.OK)
	upper := branch.New(8)
	u, e := upper.Make(1, "up", api.Dir, "")
	is(t, "up", e, api.OK)
	work, e := upper.Make(1, "work", api.Dir, "")
	is(t, "work", e, api.OK)
	c := New(upper, lower, u, 1, work)
	told := func(got, want int, e api.Errno) {
		t.Helper()
		if got != want || e != api.OK {
			t.Errorf("%d, %d; want %d", got, e, want)
		}
	}
	n, e := c.Node([]string{"a", "b"})
	if n != (api.Node{L: 3}) || e != api.OK {
		t.Errorf("%v, %d", n, e)
	}
	ino, e := c.Chain([]string{"a"})
	told(ino, 4, e)
	ino, e = c.Up([]string{"a", "b"})
	told(ino, 5, e)
	n, e = c.Node([]string{"a", "b"})
	if n != (api.Node{U: 5}) || e != api.OK {
		t.Errorf("%v, %d", n, e)
	}
	ino, e = c.Deep([]string{"a"})
	told(ino, 4, e)
	told(upper.Marks(ino), api.Opaque, e)
	is(t, "Hide", c.Hide([]string{"f"}), api.OK)
	l := flat.Of(c.View())
	if !flat.Same(l, []api.Line{{Path: "/a", Kind: api.Dir}, {Path: "/a/b", Kind: api.File, Data: "xy"}, {Path: "/a/d", Kind: api.Dir}, {Path: "/a/d/l", Kind: api.Link, Data: "../b"}}) {
		t.Errorf("%v", l)
	}
}

// TestNew: P12.1: which branches and directories make a copier.
func TestNew(t *testing.T) {
	u, l := newSide(t, 8), newSide(t, 8)
	root := u.all[1]
	text := map[int]string{api.File: "text", api.Link: "to"}
	for i, kind := range []int{api.Dir, api.Dir, api.File, api.Link, api.White, api.Dir} {
		u.put(root, strconv.Itoa(i), kind, text[kind])
	}
	below := u.put(root, "0/below", api.Dir, "").ino
	l.put(l.all[1], "f", api.File, "x")
	for i := range 9 {
		l.put(l.all[1], "d"+strconv.Itoa(i), api.Dir, "")
	}
	is(t, "Hold", u.b.Hold(7), api.OK)
	is(t, "Rmdir", u.b.Rmdir(1, "5"), api.OK)
	dirs := []int{1, 2, 3, below, 7}
	none := []int{0, -1, 4, 5, 6, 9, 10, 200, 201, math.MinInt, math.MaxInt, 1 << 32, 1<<32 + 1}
	for _, low := range append(slices.Clone(dirs), none...) {
		for _, a := range append(slices.Clone(dirs), none...) {
			for _, b := range append(slices.Clone(dirs), none...) {
				c := New(u.b, l.b, a, low, b)
				good := a != b && slices.Contains(dirs, a) && slices.Contains(dirs, b)
				if (c != nil) != good {
					t.Fatalf("%d, %d, %d: a copier %t", a, low, b, c != nil)
				}
				if good && (c.View() == nil || c.View() != c.View() || c.View().Root() != merge.New(u.b, l.b, a, low).Root()) {
					t.Fatalf("%d, %d, %d: the root %v", a, low, b, c.View().Root())
				}
			}
		}
	}
	if New(nil, l.b, 1, 1, 2) != nil || New(u.b, nil, 1, 1, 2) != nil || New(nil, nil, 1, 1, 2) != nil || New(branch.New(-1), l.b, 1, 1, 2) != nil || New(u.b, branch.New(-1), 1, 1, 2) != nil {
		t.Errorf("a copier without a branch")
	}
	l.same("lower")
}

// TestNone: the nil that New returns is a copier without anything: nothing panics.
func TestNone(t *testing.T) {
	c := New(nil, nil, 1, 1, 2)
	if c.View() != nil {
		t.Errorf("a view")
	}
	n, e := c.Node(nil)
	if n != (api.Node{}) || e != api.OK {
		t.Errorf("%v, %d", n, e)
	}
	for _, names := range [][]string{nil, {}, {"a"}, {"a", "b"}, {""}} {
		for i, call := range []func([]string) (int, api.Errno){c.Chain, c.Up, c.Deep} {
			want := api.ENOENT
			if i > 0 && len(names) == 0 {
				want = api.EINVAL
			}
			if got, e := call(names); got != 0 || e != want {
				t.Errorf("%d of %q: %d, %d", i, names, got, e)
			}
		}
		if n, e := c.Node(names); n != (api.Node{}) || len(names) > 0 && e != api.ENOENT {
			t.Errorf("Node of %q: %v, %d", names, n, e)
		}
		if e := c.Hide(names); len(names) > 0 && names[0] != "" && e != api.ENOENT || (len(names) == 0 || names[0] == "") && e != api.EINVAL {
			t.Errorf("Hide of %q: %d", names, e)
		}
	}
}

// TestView: P12.1: the view is the two branches' from the two roots on, and follows what becomes of them.
func TestView(t *testing.T) {
	p := newPair(t, 8)
	p.under("f", api.File, "lower")
	p.under("d", api.Dir, "")
	p.over("f", api.File, "upper")
	p.over("d", api.White, "")
	v := p.c.View()
	p.over("e", api.Dir, "")
	if !flat.Same(flat.Of(v), []api.Line{{Path: "/e", Kind: api.Dir}, {Path: "/f", Kind: api.File, Data: "upper"}}) {
		t.Errorf("%v", flat.Of(v))
	}
	p.u.drop(p.top, "f")
	if p.c.View() != v || !flat.Same(flat.Of(v), []api.Line{{Path: "/e", Kind: api.Dir}, {Path: "/f", Kind: api.File, Data: "lower"}}) {
		t.Errorf("%v", flat.Of(v))
	}
}

// sample has, in two directories that are seen as one, each kind over each other one.
func sample(t *testing.T, room int) *pair {
	t.Helper()
	p := newPair(t, room)
	kinds := []int{0, api.File, api.Dir, api.Link, api.White}
	text := []string{"", "bytes of a file", "", "where/to", ""}
	p.over("both", api.Dir, "")
	for _, dir := range []string{"", "both/", "low/"} {
		if dir != "" {
			p.under(strings.TrimSuffix(dir, "/"), api.Dir, "")
		}
		for a, over := range kinds {
			for b, under := range kinds {
				name := dir + strconv.Itoa(a) + strconv.Itoa(b)
				if under != 0 {
					p.under(name, under, text[b])
				}
				if over != 0 && dir != "low/" {
					p.over(name, over, text[a])
				}
				if under == api.Dir {
					p.under(name+"/in", api.File, "inner")
					p.under(name+"/l", api.Link, "inner")
				}
			}
		}
	}
	p.marked("opaque", api.Opaque)
	p.over("opaque/x", api.File, "")
	p.under("opaque", api.Dir, "")
	p.under("opaque/y", api.Dir, "")
	p.under("opaque/y/z", api.Link, "hidden")
	p.whole("sample")
	return p
}

// places are all names that a sample has, and names that it hasn't.
func places() []string {
	var all []string
	for _, dir := range []string{"", "both/", "low/", "none/", "22/", "12/", "41/", "opaque/"} {
		for _, a := range "01234" {
			for _, b := range "01234" {
				all = append(all, dir+string(a)+string(b))
				all = append(all, dir+string(a)+string(b)+"/in", dir+string(a)+string(b)+"/l", dir+string(a)+string(b)+"/none")
			}
		}
	}
	return append(all, "", "/", "both", "low", "opaque", "opaque/x", "opaque/y", "opaque/y/z", "opaque/x/y", "none", ".", "..", "both/.", "both/..", "./both", "low/../both", "both//01",
		strings.Repeat("n", 60), strings.Repeat("n", 61), "both/"+strings.Repeat("n", 61), "a\x00", "both/a\x00", "01/none/none", "none/01/none", "31/in", "30/in", "03/in")
}

// TestNode: P12.1: what names lead to, and the first of several errors.
func TestNode(t *testing.T) {
	p := sample(t, api.MaxRoom)
	for _, at := range places() {
		p.node(at)
	}
	for at, want := range map[string]api.Errno{
		"none/01/x": api.ENOENT, "01/none/x": api.ENOTDIR, "03/x/y": api.ENOTDIR, "both/10/x": api.ENOTDIR, "both/41/x": api.ENOENT, "opaque/y/z": api.ENOENT, "opaque/x/z": api.ENOTDIR, "40/x": api.ENOENT, "04": api.ENOENT,
		"/": api.ENOENT, "both/.": api.ENOENT, "both/..": api.ENOENT, strings.Repeat("n", 61): api.ENOENT, "low/22": api.OK, "low/22/in": api.OK, "22/in": api.OK,
	} {
		_, e := p.node(at)
		is(t, at, e, want)
	}
	for names, want := range map[string]api.Node{"": {U: 2, L: 3}, "low": {L: p.low.names["low"].ino}, "both": {U: p.top.names["both"].ino, L: p.low.names["both"].ino}, "opaque": {U: p.top.names["opaque"].ino}, "22": {U: p.top.names["22"].ino, L: p.low.names["22"].ino}, "11": {U: p.top.names["11"].ino}} {
		if n, e := p.node(names); n != want || e != api.OK {
			t.Errorf("%q: %v, %d; want %v", names, n, e, want)
		}
	}
	// One empty name isn't no name, and a slash parts nothing here.
	for _, names := range [][]string{{""}, {"both/22"}, {"/both"}, {"both", "22/in"}, {"both", ""}} {
		if n, e := p.c.Node(names); n != (api.Node{}) || e != api.ENOENT {
			t.Errorf("%q: %v, %d", names, n, e)
		}
	}
}

// TestNodeRoot: P12.1: the view's root may have no lower directory; then the lower branch isn't seen.
func TestNodeRoot(t *testing.T) {
	p := newPair(t, 8)
	p.under("f", api.File, "")
	p.over("g", api.File, "")
	for _, l := range []int{0, -1, 2, 4, 201} {
		c := New(p.u.b, p.l.b, 2, l, 3)
		n, e := c.Node(nil)
		if n != (api.Node{U: 2}) || e != api.OK {
			t.Errorf("%d: %v, %d", l, n, e)
		}
		n, e = c.Node([]string{"g"})
		if n != (api.Node{U: p.top.names["g"].ino}) || e != api.OK {
			t.Errorf("%d: %v, %d", l, n, e)
		}
		n, e = c.Node([]string{"f"})
		if n != (api.Node{}) || e != api.ENOENT {
			t.Errorf("%d: %v, %d", l, n, e)
		}
		ino, e := c.Up([]string{"f"})
		if ino != 0 || e != api.ENOENT || c.Hide([]string{"f"}) != api.OK {
			t.Errorf("%d: %d, %d", l, ino, e)
		}
	}
	p.whole("no lower root")
	p.u.mark(p.top, 3)
	if _, e := p.node("f"); e != api.ENOENT {
		t.Errorf("an opaque root: %d", e)
	}
	is(t, "Hide", p.hide("f"), api.OK)
	is(t, "Up", p.up("f"), api.ENOENT)
}

// TestChain: P12.2: the directories that names lead to, each made if the upper branch hasn't it.
func TestChain(t *testing.T) {
	for _, at := range places() {
		p := sample(t, api.MaxRoom)
		p.chain(at)
		p.chain(at)
	}
	p := sample(t, api.MaxRoom)
	for _, x := range []struct {
		at   string
		e    api.Errno
		made int
	}{
		{"", api.OK, 0}, {"both", api.OK, 0}, {"22", api.OK, 0}, {"20", api.OK, 0}, {"21", api.OK, 0}, {"opaque", api.OK, 0}, {"opaque/y", api.ENOENT, 0}, {"41", api.ENOENT, 0}, {"40/x", api.ENOENT, 0},
		{"both/42", api.ENOENT, 0}, {"11", api.ENOTDIR, 0}, {"12", api.ENOTDIR, 0}, {"12/in", api.ENOTDIR, 0}, {"30", api.ENOTDIR, 0}, {"01", api.ENOTDIR, 0}, {"03", api.ENOTDIR, 0}, {"04", api.ENOENT, 0},
		{"/", api.ENOENT, 0}, {"both/.", api.ENOENT, 0}, {"02/in", api.ENOTDIR, 1}, {"02", api.OK, 0}, {"both/02/none", api.ENOENT, 1}, {"low/02", api.OK, 2}, {"low/02/in", api.ENOTDIR, 0}, {"low/12/l/x", api.ENOTDIR, 1}, {"low/22/none/none", api.ENOENT, 1},
	} {
		n := p.u.b.Inodes()
		is(t, x.at, p.chain(x.at), x.e)
		if p.u.b.Inodes() != n+x.made {
			t.Fatalf("%q: %d directories were made; want %d", x.at, p.u.b.Inodes()-n, x.made)
		}
	}
	// What was made is a plain directory, without marks, in which the lower one's names are seen.
	if x := p.top.names["low"]; x.marks != 0 || len(below(p.c.View(), "low")) < 20 {
		t.Errorf("%v", x)
	}
	for _, names := range [][]string{{""}, {"both/22"}, {"/both"}, {"both", ""}} {
		if ino, e := p.c.Chain(names); ino != 0 || e != api.ENOENT {
			t.Errorf("%q: %d, %d", names, ino, e)
		}
	}
	p.whole("names with slashes")
}

// deepLow puts directories below one another into the lower branch, and a file and a link into the last one.
func deepLow(p *pair, depth int) string {
	at := "d"
	p.under(at, api.Dir, "")
	for range depth - 1 {
		at += "/d"
		p.under(at, api.Dir, "")
	}
	p.under(at+"/f", api.File, "a file of more than one chunk, of 64 bytes, which are 4 chunks..")
	p.under(at+"/l", api.Link, "../f")
	return at
}

// TestChainInodes: P12.2: with so many numbers left, what was made ahead of the error is there.
func TestChainInodes(t *testing.T) {
	for left := range 7 {
		p := newPair(t, 8)
		at := deepLow(p, 5)
		p.crowd(left)
		want := api.ENOSPC
		if left >= 5 {
			want = api.OK
		}
		is(t, "Chain", p.chain(at), want)
		if made := p.u.b.Inodes() - (api.MaxInode - left); made != min(left, 5) {
			t.Fatalf("%d left: %d were made", left, made)
		}
		is(t, "Chain", p.chain(at), want)
		// The names that come later aren't asked for then.
		names := at + "/none"
		if left >= 5 {
			want = api.ENOENT
		}
		is(t, "Chain", p.chain(names), want)
	}
}

// TestChainDeep: P12.2, P12.3, P12.4: as deep as a branch can be.
func TestChainDeep(t *testing.T) {
	p := newPair(t, 8)
	at := deepLow(p, 194)
	is(t, "Chain", p.chain(at), api.OK)
	p = newPair(t, 8)
	at = deepLow(p, 194)
	is(t, "Up", p.up(at+"/f"), api.OK)
	p = newPair(t, 8)
	deepLow(p, 195)
	is(t, "Deep", p.deep("d"), api.OK)
	p = newPair(t, 8)
	deepLow(p, 195)
	p.u.put(p.u.all[1], "one", api.File, "")
	is(t, "Deep", p.deep("d"), api.ENOSPC)
}

// TestUp: P12.3: what is copied, and what is there already.
func TestUp(t *testing.T) {
	for _, at := range places() {
		p := sample(t, api.MaxRoom)
		p.up(at)
		p.up(at)
	}
	p := sample(t, api.MaxRoom)
	for _, x := range []struct {
		at   string
		e    api.Errno
		made int
	}{
		{"", api.EINVAL, 0}, {"both", api.OK, 0}, {"11", api.OK, 0}, {"10", api.OK, 0}, {"31", api.OK, 0}, {"13", api.OK, 0}, {"opaque/x", api.OK, 0}, {"22", api.OK, 0}, {"20", api.OK, 0}, {"41", api.ENOENT, 0},
		{"04", api.ENOENT, 0}, {"none", api.ENOENT, 0}, {"opaque/y", api.ENOENT, 0}, {"opaque/y/z", api.ENOENT, 0}, {"01/x", api.ENOTDIR, 0}, {"03/x", api.ENOTDIR, 0}, {"30/x", api.ENOTDIR, 0}, {"10/x/y", api.ENOTDIR, 0},
		{"01", api.OK, 1}, {"03", api.OK, 1}, {"02", api.OK, 1}, {"02/in", api.OK, 1}, {"both/02/l", api.OK, 2}, {"22/in", api.OK, 1}, {"low/12/none", api.ENOENT, 2}, {"low/22", api.OK, 1}, {"low/02/in", api.OK, 2}, {"low/31/x", api.ENOTDIR, 0}, {"low/33/x", api.ENOTDIR, 0}, {"low/33", api.OK, 1},
	} {
		n := p.u.b.Inodes()
		is(t, x.at, p.up(x.at), x.e)
		if p.u.b.Inodes() != n+x.made {
			t.Fatalf("%q: %d inodes were made; want %d", x.at, p.u.b.Inodes()-n, x.made)
		}
	}
	for _, names := range [][]string{{""}, {"both/22"}, {"/both"}, {"both", ""}} {
		if ino, e := p.c.Up(names); ino != 0 || e != api.ENOENT {
			t.Errorf("%q: %d, %d", names, ino, e)
		}
	}
	p.whole("names with slashes")
	if ino, e := p.c.Up([]string{}); ino != 0 || e != api.EINVAL {
		t.Errorf("no names: %d, %d", ino, e)
	}
}

// bodies are files' bytes of all lengths about whole chunks, with zero bytes at the beginning, in the middle and at the end.
func bodies() []string {
	full := "0123456789abcdef"
	all := []string{"", full + zeros(16) + full, zeros(16) + full, full + zeros(16), full + zeros(17), full + zeros(15), zeros(48) + "x", "x" + zeros(48), zeros(15) + "x", zeros(16) + "x", zeros(15) + "xx", full + zeros(31) + "x" + zeros(64) + full + zeros(3)}
	for _, n := range []int{1, 2, 15, 16, 17, 31, 32, 33, 64, 65, 100, 4096} {
		all = append(all, strings.Repeat("x", n), zeros(n), zeros(n)+"x", "x"+zeros(n))
	}
	return all
}

// TestUpBytes: P12.3: chunks that are zero throughout aren't written, and the size is right all the same.
func TestUpBytes(t *testing.T) {
	for _, text := range bodies() {
		p := newPair(t, api.MaxRoom)
		p.under("f", api.File, text)
		is(t, "Up", p.up("f"), api.OK)
		// The copy is a file like any other.
		p.u.write(p.top.names["f"], 40, "later")
		p.u.write(p.top.names["f"], 0, "!")
		p.whole("written later")
	}
	longest := strings.Repeat("0123456789\x00\n\xff /a", api.MaxFile/16)
	for text, chunks := range map[string]int{longest: 4096, zeros(api.MaxFile): 0, zeros(api.MaxFile-1) + "!": 1, "!" + zeros(api.MaxFile-1): 1, longest[:api.MaxFile-1]: 4096, longest[:30000] + zeros(5000) + longest[35000:]: 4096 - 312} {
		p := newPair(t, api.MaxRoom)
		p.under("f", api.File, text)
		is(t, "Up", p.up("f"), api.OK)
		if p.u.b.Used() != chunks {
			t.Errorf("%d bytes: %d chunks; want %d", len(text), p.u.b.Used(), chunks)
		}
	}
}

// TestUpHoles: P12.3: holes stay holes, and a file of holes alone takes no room.
func TestUpHoles(t *testing.T) {
	p := newPair(t, 3)
	f := p.under("f", api.File, "beginning")
	p.l.write(f, 5000, "middle")
	p.l.write(f, 6000, zeros(40))
	p.l.write(f, 6300, "end")
	p.l.cut(f, api.MaxFile)
	p.l.cut(p.under("h", api.File, ""), 12345)
	p.l.cut(p.under("g", api.File, ""), 5)
	is(t, "Up", p.up("h"), api.OK)
	is(t, "Up", p.up("g"), api.OK)
	if p.u.b.Used() != 0 {
		t.Errorf("%d chunks", p.u.b.Used())
	}
	is(t, "Up", p.up("f"), api.OK)
	if p.u.b.Used() != 3 {
		t.Errorf("%d chunks", p.u.b.Used())
	}
}

// TestUpRoom: P12.3: with no room left at each chunk, nothing is left behind.
func TestUpRoom(t *testing.T) {
	full := "0123456789abcdef"
	for _, text := range []string{strings.Repeat(full, 5), strings.Repeat(full, 4) + "x", full + zeros(16) + full + zeros(40) + full, zeros(100) + "x", zeros(100), ""} {
		for room := range 8 {
			p := newPair(t, room)
			p.under("d", api.Dir, "")
			p.under("d/f", api.File, text)
			p.under("d/none", api.File, zeros(30))
			p.under("d/l", api.Link, "f")
			is(t, "Chain", p.chain("d"), api.OK)
			n := p.u.b.Inodes()
			e := p.up("d/f")
			needed := 0
			for part := range slices.Chunk([]byte(text), api.Chunk) {
				if strings.Trim(string(part), "\x00") != "" {
					needed++
				}
			}
			if (e == api.OK) != (room >= needed) || e != api.OK && e != api.ENOSPC {
				t.Fatalf("%q in %d: %d", text, room, e)
			}
			if e != api.OK && (p.u.b.Used() != 0 || p.u.b.Inodes() != n) {
				t.Fatalf("%q in %d: %d chunks, %d inodes are left", text, room, p.u.b.Used(), p.u.b.Inodes())
			}
			// What needs no room is copied all the same.
			is(t, "Up", p.up("d/none"), api.OK)
			is(t, "Up", p.up("d/l"), api.OK)
		}
	}
	// The longest file, in a room that is one chunk too small.
	p := newPair(t, 4095)
	p.under("f", api.File, strings.Repeat("y", api.MaxFile))
	is(t, "Up", p.up("f"), api.ENOSPC)
	if p.u.b.Used() != 0 || p.u.b.Inodes() != 3 {
		t.Errorf("%d chunks, %d inodes", p.u.b.Used(), p.u.b.Inodes())
	}
}

// TestUpRoomOfOthers: P12.3: the room that others leave; it becomes enough when one of them goes.
func TestUpRoomOfOthers(t *testing.T) {
	p := newPair(t, 6)
	p.over("mine", api.File, strings.Repeat("m", 50))
	p.under("f", api.File, strings.Repeat("f", 33))
	p.under("d", api.Dir, "")
	p.under("d/f", api.File, strings.Repeat("g", 32))
	is(t, "Up", p.up("f"), api.ENOSPC)
	is(t, "Up", p.up("d/f"), api.OK)
	is(t, "Up", p.up("f"), api.ENOSPC)
	p.u.drop(p.top, "mine")
	is(t, "Up", p.up("f"), api.OK)
}

// TestUpInodes: P12.3: with so many numbers left; directories that were made ahead of the error are there, as Chain makes them.
func TestUpInodes(t *testing.T) {
	for _, last := range []string{"/f", "/l", ""} {
		for left := range 7 {
			p := newPair(t, 8)
			at := deepLow(p, 4)
			p.crowd(left)
			needed := 5
			if last == "" {
				needed = 4
			}
			want := api.ENOSPC
			if left >= needed {
				want = api.OK
			}
			is(t, "Up", p.up(at+last), want)
			if made := p.u.b.Inodes() - (api.MaxInode - left); made != min(left, needed) || want != api.OK && p.u.b.Used() != 0 {
				t.Fatalf("%d left: %d were made, %d chunks", left, made, p.u.b.Used())
			}
		}
	}
}

// TestUpOther: P12.3: something in work already: under the name c, a file can't be copied, and what stands there stays; under another one, it is nobody's matter.
func TestUpOther(t *testing.T) {
	for _, kind := range []int{api.File, api.Dir, api.Link, api.White} {
		for _, room := range []int{2, 8} {
			p := newPair(t, room)
			at := deepLow(p, 2)
			text := map[int]string{api.File: "of more than a chunk", api.Link: "to"}
			p.u.put(p.work, "c", kind, text[kind])
			if kind == api.Dir {
				p.u.put(p.work, "c/c", api.File, "")
			}
			is(t, "Up", p.up(at), api.OK)
			n, used := p.u.b.Inodes(), p.u.b.Used()
			is(t, "Up", p.up(at+"/f"), api.EEXIST)
			is(t, "Up", p.up(at+"/none"), api.ENOENT)
			if p.u.b.Inodes() != n || p.u.b.Used() != used {
				t.Fatalf("%d inodes, %d chunks; want %d, %d", p.u.b.Inodes(), p.u.b.Used(), n, used)
			}
			is(t, "Up", p.up(at+"/l"), api.OK)
			is(t, "Deep", p.deep("d"), api.EEXIST)
			is(t, "Hide", p.hide(at+"/f"), api.OK)
			is(t, "Deep", p.deep("d"), api.OK)
		}
	}
	p := newPair(t, 8)
	at := deepLow(p, 2)
	p.u.put(p.work, "c0", api.File, "other")
	p.u.put(p.work, "b", api.Dir, "")
	is(t, "Up", p.up(at+"/f"), api.OK)
	// The name c means nothing elsewhere.
	p.under("c", api.File, "one more")
	p.under("d/c", api.File, "")
	is(t, "Up", p.up("c"), api.OK)
	is(t, "Up", p.up("d/c"), api.OK)
}

// lost has a copier whose root was taken away, while it is held.
func lost(t *testing.T) *pair {
	t.Helper()
	p := newPair(t, 8)
	p.under("f", api.File, "of some bytes, for two chunks")
	p.under("l", api.Link, "f")
	p.under("d", api.Dir, "")
	p.under("d/f", api.File, "f")
	is(t, "Hold", p.u.b.Hold(2), api.OK)
	is(t, "Rmdir", p.u.b.Rmdir(1, "up"), api.OK)
	return p
}

// stays holds every call that makes something to an error, and to leave nothing behind.
func (p *pair) stays(what, at string, want api.Errno) {
	p.t.Helper()
	inodes := p.u.b.Inodes()
	for i, call := range []func([]string) (int, api.Errno){p.c.Up, p.c.Deep} {
		if ino, e := call(spare(at)); ino != 0 || e != want {
			p.t.Fatalf("%s: %d of %q: %d, %d; want %d", what, i, at, ino, e, want)
		}
	}
	entries, e := p.u.b.All(3)
	if len(entries) != 0 || e != api.OK || p.u.b.Used() != 0 || p.u.b.Inodes() != inodes {
		p.t.Fatalf("%s: %q: %v is in work, %d chunks, %d inodes; want %d", what, at, entries, p.u.b.Used(), p.u.b.Inodes(), inodes)
	}
	if n, e := p.c.Node(spare(at)); n.U != 0 || n.L == 0 || e != api.OK {
		p.t.Fatalf("%s: Node %q: %v, %d", what, at, n, e)
	}
	p.l.same(what)
}

// TestUpRename: P12.3: an error of the renaming undoes the copy as well.
func TestUpRename(t *testing.T) {
	p := lost(t)
	for _, at := range []string{"f", "l", "d", "d/f"} {
		p.stays("a root without links", at, api.ENOENT)
		is(t, "Hide", p.c.Hide(spare(at)), api.ENOENT)
	}
	if ino, e := p.c.Chain(nil); ino != 2 || e != api.OK {
		t.Errorf("Chain of no name: %d, %d", ino, e)
	}
	// Now its number is free: the file that is made in work gets it, and is no directory into which it could be renamed.
	is(t, "Release", p.u.b.Release(2), api.OK)
	for at, want := range map[string]api.Errno{"f": api.ENOTDIR, "l": api.ENOENT, "d": api.ENOENT, "d/f": api.ENOENT} {
		p.stays("no root", at, want)
		is(t, "Hide", p.c.Hide(spare(at)), api.ENOENT)
	}
	if ino, e := p.u.b.Make(1, "file", api.File, ""); ino != 2 || e != api.OK {
		t.Fatalf("%d, %d", ino, e)
	}
	for _, at := range []string{"f", "l", "d", "d/f"} {
		p.stays("a file as the root", at, api.ENOTDIR)
		is(t, "Hide", p.c.Hide(spare(at)), api.ENOTDIR)
	}
}

// TestUpWork: P12.3: without a work directory, links and directories are copied, and files aren't.
func TestUpWork(t *testing.T) {
	p := newPair(t, 8)
	deepLow(p, 1)
	is(t, "Hold", p.u.b.Hold(3), api.OK)
	is(t, "Rmdir", p.u.b.Rmdir(1, "work"), api.OK)
	for i, x := range []struct {
		at  string
		ino int
		e   api.Errno
	}{{"d/f", 0, api.ENOENT}, {"d", 4, api.OK}, {"d/l", 5, api.OK}, {"d/f", 0, api.ENOENT}} {
		if ino, e := p.c.Up(spare(x.at)); ino != x.ino || e != x.e {
			t.Errorf("%d: %q: %d, %d; want %d, %d", i, x.at, ino, e, x.ino, x.e)
		}
	}
	if p.u.b.Used() != 0 || p.u.b.Inodes() != 5 {
		t.Errorf("%d chunks, %d inodes", p.u.b.Used(), p.u.b.Inodes())
	}
}

// TestUpNames: P12.3, P12.6: each name of a lower file is copied by itself.
func TestUpNames(t *testing.T) {
	p := newPair(t, 12)
	p.under("d", api.Dir, "")
	f := p.under("f", api.File, "the same in all names, in 3 chunks..")
	l := p.under("l", api.Link, "where")
	p.l.again(f, p.low, "g")
	p.l.again(f, p.low, "d/h")
	p.l.again(l, p.low, "d/m")
	is(t, "Up", p.up("g"), api.OK)
	if n, _ := p.node("f"); n != (api.Node{L: f.ino}) {
		t.Errorf("%v", n)
	}
	is(t, "Up", p.up("d/h"), api.OK)
	p.u.write(p.top.names["g"], 0, "changed")
	is(t, "Up", p.up("f"), api.OK)
	is(t, "Up", p.up("d/m"), api.OK)
	is(t, "Up", p.up("l"), api.OK)
	if a, b, c := p.top.names["f"], p.top.names["g"], p.top.names["d"].names["h"]; a.ino == b.ino || b.ino == c.ino || a.text == b.text || a.text != c.text || p.u.b.Used() != 9 {
		t.Errorf("%v, %v, %v", a, b, c)
	}
}

// TestUpLinks: P12.3: the target is the same, however long; a link isn't followed.
func TestUpLinks(t *testing.T) {
	for _, target := range []string{"x", "/", "..", "d/../d//", "\x00\xff", strings.Repeat("../", 133) + "x", "l", "d"} {
		p := newPair(t, 0)
		p.under("d", api.Dir, "")
		p.under("d/l", api.Link, target)
		is(t, "Up", p.up("d/l"), api.OK)
		got, e := p.u.b.Target(p.top.names["d"].names["l"].ino)
		if got != target || e != api.OK {
			t.Errorf("%q, %d; want %q", got, e, target)
		}
		is(t, "Up", p.up("d/l/x"), api.ENOTDIR)
	}
}

// TestDeepKinds: P12.4: a file, a link, a directory of the upper branch, of the lower one, of both.
func TestDeepKinds(t *testing.T) {
	for _, at := range places() {
		p := sample(t, api.MaxRoom)
		p.deep(at)
		p.deep(at)
	}
	for at, want := range map[string]api.Errno{"": api.EINVAL, "41": api.ENOENT, "01/x": api.ENOTDIR, "none": api.ENOENT, "opaque/y": api.ENOENT, "04": api.ENOENT, "01": api.OK, "03": api.OK, "20": api.OK, "21": api.OK, "22": api.OK, "02": api.OK, "low": api.OK, "both": api.OK, "opaque": api.OK} {
		p := sample(t, api.MaxRoom)
		is(t, at, p.deep(at), want)
	}
	p := sample(t, api.MaxRoom)
	is(t, "Deep", p.deep("both"), api.OK)
	both := p.top.names["both"]
	if both.marks != api.Opaque || both.names["22"].marks != api.Opaque || both.names["02"].marks != api.Opaque || both.names["20"].marks != 0 || both.names["21"].marks != 0 || both.names["40"] != nil || both.names["42"] != nil || both.names["04"] != nil || p.top.marks != 0 {
		t.Errorf("%v", both)
	}
	if names := strings.Join(both.sorted(), " "); names != "01 02 03 10 11 12 13 14 20 21 22 23 24 30 31 32 33 34" {
		t.Errorf("%s", names)
	}
}

// TestDeepMarks: P12.4: Whites and Opaque directories at every depth; other marks aren't kept, and nothing else is touched.
func TestDeepMarks(t *testing.T) {
	for _, marks := range []int{0, 2, 4, -2, math.MaxInt - 1, 1, 3, -1, math.MaxInt} {
		p := newPair(t, api.MaxRoom)
		for _, at := range []string{"a", "a/b", "a/b/c", "a/b/c/d"} {
			p.under(at, api.Dir, "")
			p.under(at+"/f", api.File, "lower "+at)
			p.under(at+"/gone", api.Link, "lower")
			p.under(at+"/w", api.White, "")
		}
		p.over("a", api.Dir, "")
		p.over("a/gone", api.White, "")
		p.over("a/lost", api.White, "")
		p.marked("a/b", marks)
		p.over("a/b/gone", api.White, "")
		p.over("a/b/0", api.White, "")
		p.over("a/b/c", api.Dir, "")
		p.over("a/b/c/f", api.File, "upper")
		p.over("a/b/c/w", api.White, "")
		p.u.mark(p.over("a/mine", api.Dir, ""), 6)
		p.over("a/mine/w", api.White, "")
		p.marked("a/other", 3)
		p.over("a/other/w", api.White, "")
		p.under("a/other", api.Dir, "")
		p.under("a/other/x", api.File, "hidden")
		p.u.mark(p.over("a/file", api.File, "marked"), 5)
		p.u.again(p.top.names["a"].names["gone"], p.u.all[1], "elsewhere")
		is(t, "Deep", p.deep("a"), api.OK)
		a := p.top.names["a"]
		if marks&1 == 0 && (a.names["b"].marks != 1 || a.names["b"].names["c"].marks != 1 || a.names["b"].names["c"].names["d"].marks != 1 || a.names["b"].names["0"] != nil) {
			t.Errorf("%d: %v", marks, a.names["b"])
		}
		if marks&1 == 1 && (a.names["b"].marks != marks || a.names["b"].names["c"].marks != 0 || a.names["b"].names["0"] == nil) {
			t.Errorf("%d: %v", marks, a.names["b"])
		}
		if a.marks != 1 || a.names["lost"] != nil || a.names["mine"].marks != 6 || a.names["mine"].names["w"] == nil || a.names["other"].marks != 3 || a.names["other"].names["w"] == nil || a.names["other"].names["x"] != nil || a.names["file"].marks != 5 {
			t.Errorf("%d: %v", marks, a)
		}
		was := p.u.b.Inodes()
		is(t, "Deep", p.deep("a"), api.OK)
		is(t, "Deep", p.deep("a/b"), api.OK)
		if p.u.b.Inodes() != was {
			t.Errorf("again: %d inodes; want %d", p.u.b.Inodes(), was)
		}
	}
}

// ladder has, in the lower branch, names whose order is that of copying: 3 chunks and 5 inodes in all.
func ladder(t *testing.T, room int) *pair {
	t.Helper()
	p := newPair(t, room)
	p.under("d", api.Dir, "")
	p.under("d/a", api.Dir, "")
	p.under("d/a/f", api.File, "one")
	p.under("d/b", api.File, "two")
	p.under("d/c", api.Link, "to")
	p.under("d/e", api.Dir, "")
	p.under("d/g", api.File, "three")
	p.under("d/w", api.File, "")
	p.over("d", api.Dir, "")
	p.over("d/w", api.White, "")
	p.u.mark(p.top.names["d"], 2)
	return p
}

// TestDeepStops: P12.4: an error stops it where it stands: what was copied ahead of it is there, and the directories that aren't complete aren't marked.
func TestDeepStops(t *testing.T) {
	for room, names := range []string{"a w", "a w", "a b c e w", "a b c e g"} {
		p := ladder(t, room)
		want := api.ENOSPC
		if room == 3 {
			want = api.OK
		}
		is(t, "Deep", p.deep("d"), want)
		if d := p.top.names["d"]; strings.Join(d.sorted(), " ") != names || len(d.sorted()) > 0 && (room > 0) != (d.names["a"].marks == 1) || d.marks != 2-room/3 || p.u.b.Used() != room {
			t.Errorf("%d: %q, %v", room, d.sorted(), d)
		}
	}
	for left, names := range []string{"w", "a w", "a w", "a b w", "a b c w", "a b c e w", "a b c e g"} {
		p := ladder(t, 8)
		p.crowd(left)
		want := api.ENOSPC
		if left == 6 {
			want = api.OK
		}
		is(t, "Deep", p.deep("d"), want)
		if d := p.top.names["d"]; strings.Join(d.sorted(), " ") != names {
			t.Errorf("%d: %q, %v", left, d.sorted(), d)
		}
	}
	// It goes on where it stood as soon as there is room.
	p := ladder(t, 3)
	p.over("mine", api.File, "x")
	is(t, "Deep", p.deep("d"), api.ENOSPC)
	p.u.drop(p.top, "mine")
	is(t, "Deep", p.deep("d"), api.OK)
	// In a directory of its own that isn't the first one.
	p = newPair(t, 1)
	for _, at := range []string{"d", "d/a", "d/b", "d/c"} {
		p.under(at, api.Dir, "")
	}
	p.under("d/a/f", api.File, "1")
	p.under("d/b/f", api.File, "2")
	is(t, "Deep", p.deep("d"), api.ENOSPC)
	if d := p.top.names["d"]; d.marks != 0 || d.names["a"].marks != 1 || d.names["b"].marks != 0 || d.names["c"] != nil {
		t.Errorf("%v", d)
	}
}

// TestDeepOrder: P12.4: the names come in order, whichever branch has them, and whatever bytes they have.
func TestDeepOrder(t *testing.T) {
	p := newPair(t, 0)
	p.under("d", api.Dir, "")
	for _, name := range []string{"a.", "B", "\xff", "a", "a0", "!", "10", "2", "ab"} {
		p.under("d/"+name, api.File, "")
	}
	p.over("d", api.Dir, "")
	for _, name := range []string{"a1", "0"} {
		p.over("d/"+name, api.Dir, "")
	}
	p.over("d/2", api.White, "")
	is(t, "Deep", p.deep("d"), api.OK)
	var last int
	for _, name := range []string{"!", "10", "B", "a", "a.", "a0", "ab", "\xff"} {
		x := p.top.names["d"].names[name]
		if x.ino < last {
			t.Errorf("%q is %d, behind %d", name, x.ino, last)
		}
		last = x.ino
	}
}

// TestHide: P12.5: what is hidden, and which error is told.
func TestHide(t *testing.T) {
	for _, at := range places() {
		p := sample(t, api.MaxRoom)
		p.hide(at)
		p.hide(at)
	}
	long := strings.Repeat("n", 61)
	p := sample(t, api.MaxRoom)
	for _, x := range []struct {
		at   string
		e    api.Errno
		made int
	}{
		{"", api.EINVAL, 0}, {".", api.EINVAL, 0}, {"..", api.EINVAL, 0}, {"both/.", api.EINVAL, 0}, {"both/..", api.EINVAL, 0}, {"none/..", api.EINVAL, 0}, {"01/.", api.EINVAL, 0}, {"low/.", api.EINVAL, 0}, {"/", api.EINVAL, 0},
		{long, api.EINVAL, 0}, {"none/" + long, api.EINVAL, 0}, {"both/a\x00", api.EINVAL, 0}, {"01/\x00", api.EINVAL, 0}, {"low/", api.EINVAL, 0},
		{"none/x", api.ENOENT, 0}, {"01/x", api.ENOTDIR, 0}, {"10/x", api.ENOTDIR, 0}, {"03/x", api.ENOTDIR, 0}, {"41/x", api.ENOENT, 0}, {"./x", api.ENOENT, 0}, {"opaque/y/z", api.ENOENT, 0}, {"none/none/x", api.ENOENT, 0},
		{"10", api.EEXIST, 0}, {"11", api.EEXIST, 0}, {"12", api.EEXIST, 0}, {"20", api.EEXIST, 0}, {"22", api.EEXIST, 0}, {"30", api.EEXIST, 0}, {"33", api.EEXIST, 0}, {"40", api.EEXIST, 0}, {"41", api.EEXIST, 0}, {"44", api.EEXIST, 0}, {"opaque/x", api.EEXIST, 0}, {"both", api.EEXIST, 0},
		{"04", api.OK, 0}, {"00", api.OK, 0}, {"none", api.OK, 0}, {long[:60], api.OK, 0}, {"...", api.OK, 0}, {"opaque/y", api.OK, 0}, {"opaque/none", api.OK, 0}, {"both/00", api.OK, 0}, {"both/04", api.OK, 0}, {"20/in", api.OK, 0},
		{"01", api.OK, 1}, {"02", api.OK, 1}, {"03", api.OK, 1}, {"01", api.EEXIST, 0}, {"02/in", api.ENOENT, 0}, {"both/01", api.OK, 1}, {"both/02/in", api.OK, 2}, {"22/in", api.OK, 1}, {"22/in", api.EEXIST, 0}, {"22/none", api.OK, 0},
		{"low/none", api.OK, 1}, {"low/01", api.OK, 1}, {"low/02/none", api.OK, 1}, {"low/04", api.OK, 0}, {"low/02/l", api.OK, 1}, {"low", api.EEXIST, 0},
	} {
		n := p.u.b.Inodes()
		is(t, x.at, p.hide(x.at), x.e)
		if p.u.b.Inodes() != n+x.made {
			t.Fatalf("%q: %d inodes were made; want %d", x.at, p.u.b.Inodes()-n, x.made)
		}
		// What is hidden isn't seen any more; nothing else is.
		if _, e := p.node(x.at); x.e == api.OK && e != api.ENOENT {
			t.Fatalf("%q: Node's error is %d", x.at, e)
		}
	}
	for names, want := range map[string]api.Errno{"": api.EINVAL, "both/22": api.EINVAL, "/": api.EINVAL, "x/": api.EINVAL} {
		is(t, names, p.c.Hide([]string{names}), want)
		is(t, names, p.c.Hide([]string{"none", names}), want)
	}
	is(t, "no names", p.c.Hide([]string{}), api.EINVAL)
	is(t, "a slash above", p.c.Hide([]string{"both/22", "in"}), api.ENOENT)
	p.whole("names with slashes")
}

// TestHideInodes: P12.5: with so many numbers left; directories that were made ahead of the error are there.
func TestHideInodes(t *testing.T) {
	for left := range 7 {
		p := newPair(t, 0)
		at := deepLow(p, 4)
		p.crowd(left)
		want := api.ENOSPC
		if left >= 5 {
			want = api.OK
		}
		is(t, "Hide", p.hide(at+"/f"), want)
		if made := p.u.b.Inodes() - (api.MaxInode - left); made != min(left, 5) {
			t.Fatalf("%d left: %d were made", left, made)
		}
		// A name that isn't there needs no number.
		if left == 4 {
			is(t, "Hide", p.hide(at+"/none"), api.OK)
		}
	}
}

// TestHideBelow: P12.5: a White hides one name, whatever is below it, till it is taken away.
func TestHideBelow(t *testing.T) {
	p := newPair(t, 8)
	p.under("a", api.Dir, "")
	p.under("a/b", api.Dir, "")
	p.under("a/b/f", api.File, "x")
	p.under("a/g", api.File, "y")
	was := flat.Of(p.c.View())
	is(t, "Hide", p.hide("a/b"), api.OK)
	if !flat.Same(flat.Of(p.c.View()), []api.Line{was[0], was[3]}) {
		t.Errorf("%v", flat.Of(p.c.View()))
	}
	is(t, "Up", p.up("a/b/f"), api.ENOENT)
	p.u.drop(p.top, "a/b")
	if !flat.Same(flat.Of(p.c.View()), was) {
		t.Errorf("%v", flat.Of(p.c.View()))
	}
	is(t, "Deep", p.deep("a"), api.OK)
	p.u.drop(p.top, "a/b/f")
	is(t, "Hide", p.hide("a/b/f"), api.OK)
	if p.top.names["a"].names["b"].names["f"] != nil {
		t.Errorf("a White where nothing is to be hidden")
	}
}

// TestOneBranch: R1: both branches may be one, with each directory as each root: every call ends.
func TestOneBranch(t *testing.T) {
	for u := 1; u <= 5; u++ {
		for l := 1; l <= 5; l++ {
			for work := 1; work <= 5; work++ {
				s := newSide(t, 40)
				for i, at := range []string{"a", "b", "a/c", "a/c/d"} {
					s.put(s.all[1], at, api.Dir, "")
					s.put(s.all[1], at+"/f"+strconv.Itoa(i), api.File, strings.Repeat("x", 10*i))
				}
				s.again(s.all[3], s.all[1], "b/f0")
				dirs := []int{1, 2, 4, 6, 8}
				c := New(s.b, s.b, dirs[u-1], dirs[l-1], dirs[work-1])
				if (c == nil) != (u == work) {
					t.Fatalf("%d, %d, %d: a copier %t", u, l, work, c != nil)
				}
				for _, names := range [][]string{{"a"}, {"b"}, {"c"}, {"d"}, {"a", "c"}, {"c", "d"}, {"a", "a", "a"}, {"f1"}, {"a", "c", "d", "f3"}} {
					for _, call := range []func([]string) (int, api.Errno){c.Chain, c.Up, c.Deep} {
						if ino, e := call(names); (ino == 0) != (e != api.OK) {
							t.Fatalf("%d, %d, %d: %q: %d, %d", u, l, work, names, ino, e)
						}
					}
					c.Node(names)
					c.Hide(names)
				}
			}
		}
	}
}
