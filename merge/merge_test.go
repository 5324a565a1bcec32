package merge

import (
	"math"
	"slices"
	"strconv"
	"strings"
	"testing"

	"veneer/api"
	"veneer/branch"
)

// The inodes of a sample's upper side.
const (
	uTop    = 2 // the directory /top
	uWhole  = 3 // /top/whole, a directory of both sides
	uOpaque = 4 // /top/opaque, marked Opaque, a directory of both sides
	uFile   = 5 // /top/file and /top/whole/again: "upper's file"
	uLink   = 6 // /top/link, to "up"
	uWhite  = 7 // /top/white
	uEmpty  = 8 // /top/empty, a directory of the upper side alone
	uGone   = 9 // a directory that was taken away and is held
	uLost   = 10
	uFree   = 11
)

// The inodes of a sample's lower side.
const (
	lTop    = 2
	lPad    = 3
	lWhole  = 4
	lOpaque = 5
	lFile   = 6  // /top/file and /top/low: "the lower one's file" in more than one chunk
	lLink   = 7  // /top/link, to "down/here"
	lWhite  = 8  // /top/hidden
	lInner  = 9  // /top/whole/inner, a directory of the lower side alone
	lDeep   = 10 // /top/whole/inner/deep, a file "deep"
	lBelow  = 11 // /top/opaque/below, a file ""
	lGone   = 12 // a directory that was taken away and is held
	lFree   = 13
)

const upperText = "upper's file"
const lowerText = "the lower one's file, which is of 50 bytes in all."

// sample makes a view of /top over /top, with numbers that differ.
func sample(t *testing.T) *both {
	t.Helper()
	u, l := newSide(t), newSide(t)
	made := []int{
		u.make(1, "top", api.Dir, ""), u.make(uTop, "whole", api.Dir, ""), u.make(uTop, "opaque", api.Dir, ""), u.make(uTop, "file", api.File, upperText),
		u.make(uTop, "link", api.Link, "up"), u.make(uTop, "white", api.White, ""), u.make(uTop, "empty", api.Dir, ""), u.make(uTop, "gone", api.Dir, ""), u.make(1, "lost", api.File, "x"),
	}
	u.mark(uOpaque, api.Opaque)
	u.link(uWhole, "again", uFile)
	u.drop(uTop, "gone", true)
	u.drop(1, "lost", true)
	made = append(made, l.make(1, "top", api.Dir, ""), l.make(1, "pad", api.Dir, ""), l.make(lTop, "whole", api.Dir, ""), l.make(lTop, "opaque", api.Dir, ""), l.make(lTop, "file", api.File, lowerText),
		l.make(lTop, "link", api.Link, "down/here"), l.make(lTop, "hidden", api.White, ""), l.make(lWhole, "inner", api.Dir, ""), l.make(lInner, "deep", api.File, "deep"), l.make(lOpaque, "below", api.File, ""), l.make(lTop, "gone", api.Dir, ""))
	l.link(lTop, "low", lFile)
	l.link(lTop, "white", lFile)
	l.drop(lTop, "gone", true)
	if !slices.Equal(made, []int{2, 3, 4, 5, 6, 7, 8, 9, 10, 2, 3, 4, 5, 6, 7, 8, 9, 10, 11, 12}) {
		t.Fatalf("the sample's inodes: %v", made)
	}
	return newBoth(u, l, uTop, lTop)
}

// names holds the names of a node to some, parted by spaces.
func (b *both) names(n api.Node, want string) {
	b.t.Helper()
	got, e := b.v.All(n)
	if s := strings.Join(got, " "); s != want || e != api.OK {
		b.t.Errorf("All of %s: %q, %d; want %q", told(n), s, e, want)
	}
}

// leads holds what a name leads to in a node.
func (b *both) leads(n api.Node, name string, want api.Node) {
	b.t.Helper()
	if got, e := b.v.Get(n, name); got != want || e != api.OK {
		b.t.Errorf("Get of %s, %q: %s, %d; want %s", told(n), name, told(got), e, told(want))
	}
}

// fails holds Get to an error, beside which there is no node.
func (b *both) fails(n api.Node, name string, want api.Errno) {
	b.t.Helper()
	if got, e := b.v.Get(n, name); got != (api.Node{}) || e != want {
		b.t.Errorf("Get of %s, %.70q: %s, %d; want error %d", told(n), name, told(got), e, want)
	}
}

// TestExamples: the chapter's examples.
func TestExamples(t *testing.T) {
	for _, x := range []struct {
		upper func(*side)
		lower []string
		root  string
	}{
		{func(u *side) { u.make(1, "b", api.White, "") }, []string{"y", "b", "c"}, "a c"},
		{func(u *side) { u.mark(2, api.Opaque) }, []string{"y", "c"}, "a c"},
	} {
		u, l := newSide(t), newSide(t)
		a := u.make(1, "a", api.Dir, "")
		u.make(a, "x", api.File, "")
		x.upper(u)
		below := l.make(1, "a", api.Dir, "")
		l.make(below, x.lower[0], api.File, "")
		for _, name := range x.lower[1:] {
			l.make(1, name, api.File, "")
		}
		b := newBoth(u, l, 1, 1)
		b.names(b.v.Root(), x.root)
		n, _ := b.v.Get(b.v.Root(), "a")
		if u.at(a).marks == api.Opaque {
			b.names(n, "x")
		} else {
			b.names(n, "x y")
		}
		b.nodes()
	}
}

// TestNew: P10.1: there is a view if there are both branches, whatever the roots are.
func TestNew(t *testing.T) {
	b, none := branch.New(3), branch.New(-1)
	for _, u := range []int{1, 0, -1, 2, 200, 201, math.MinInt, math.MaxInt} {
		for _, l := range []int{1, 0, -1, 2, 200, 201, math.MinInt, math.MaxInt} {
			if New(nil, b, u, l) != nil || New(b, nil, u, l) != nil || New(nil, nil, u, l) != nil || New(none, b, u, l) != nil || New(b, none, u, l) != nil {
				t.Errorf("New(%d, %d): a view without a branch", u, l)
			}
			if New(b, branch.New(0), u, l) == nil || New(b, b, u, l) == nil {
				t.Errorf("New(%d, %d): no view", u, l)
			}
		}
	}
}

// TestNoView: R1, R7: what New returns without a branch may be asked, and has nothing.
func TestNoView(t *testing.T) {
	v := New(nil, branch.New(1), 1, 1)
	for _, n := range []api.Node{{}, {U: 1}, {L: 1}, {U: 1, L: 1}, {U: -1, L: 300}} {
		if v.Root() != (api.Node{}) || v.Kind(n) != 0 {
			t.Errorf("no view has the root %s, and %s the kind %d", told(v.Root()), told(n), v.Kind(n))
		}
		found, e := v.Get(n, "a")
		names, e2 := v.All(n)
		stat, e3 := v.Stat(n)
		target, e4 := v.Target(n)
		data, e5 := v.Read(n, 0, 1)
		if found != (api.Node{}) || names != nil || stat != (api.Stat{}) || target != "" || data != nil {
			t.Errorf("no view tells something of %s", told(n))
		}
		if e != api.ENOENT || e2 != api.ENOENT || e3 != api.ENOENT || e4 != api.ENOENT || e5 != api.ENOENT {
			t.Errorf("no view tells %d, %d, %d, %d, %d of %s", e, e2, e3, e4, e5, told(n))
		}
	}
}

// TestRoot: P10.1: u and l of every kind, with the upper directory marked and not.
func TestRoot(t *testing.T) {
	none := []int{0, -1, -200, math.MinInt, 199, 200, 201, 1 << 32, 1<<32 + 1, math.MaxInt}
	upper := append([]int{uFile, uLink, uWhite, uLost, uFree}, none...)
	lower := append([]int{lFile, lLink, lWhite, lFree}, none...)
	b := sample(t)
	is := func(u, l int, want api.Node) {
		t.Helper()
		if got := New(b.upper.b, b.low.b, u, l).Root(); got != want {
			t.Errorf("Root of New(%d, %d): %s; want %s", u, l, told(got), told(want))
		}
	}
	for _, l := range []int{1, lTop, lPad, lWhole, lInner, lGone} {
		for _, u := range []int{1, uTop, uWhole, uEmpty, uGone} {
			is(u, l, api.Node{U: u, L: l})
		}
		is(uOpaque, l, api.Node{U: uOpaque})
		for _, u := range upper {
			is(u, l, api.Node{L: l})
		}
	}
	for _, l := range lower {
		for _, u := range []int{1, uTop, uWhole, uOpaque, uEmpty, uGone} {
			is(u, l, api.Node{U: u})
		}
		for _, u := range upper {
			is(u, l, api.Node{})
		}
	}
	// What isn't the root's U hides nothing, and the lower branch's marks hide nothing at all.
	b.upper.mark(uFile, api.Opaque)
	b.upper.mark(uWhite, api.Opaque)
	b.low.mark(lTop, api.Opaque)
	is(uFile, lTop, api.Node{L: lTop})
	is(uWhite, lTop, api.Node{L: lTop})
	is(uTop, lTop, api.Node{U: uTop, L: lTop})
	b.upper.same("upper")
	b.low.same("lower")
}

// TestMarks: P10.1, P10.2: the lowest bit of the marks counts, and no other.
func TestMarks(t *testing.T) {
	b := sample(t)
	root := api.Node{U: uTop, L: lTop}
	for _, x := range []struct {
		marks  int
		opaque bool
	}{
		{0, false}, {2, false}, {4, false}, {6, false}, {1 << 32, false}, {1 << 62, false}, {-2, false}, {math.MinInt, false}, {math.MaxInt - 1, false},
		{1, true}, {3, true}, {5, true}, {7, true}, {255, true}, {1<<32 + 1, true}, {-1, true}, {-3, true}, {math.MinInt + 1, true}, {math.MaxInt, true},
	} {
		b.upper.mark(uTop, x.marks)
		b.upper.mark(uWhole, 0)
		if x.opaque {
			if got := b.v.Root(); got != (api.Node{U: uTop}) {
				t.Errorf("marks %d: Root: %s", x.marks, told(got))
			}
			b.names(root, "empty file link opaque whole")
			b.leads(root, "whole", api.Node{U: uWhole})
			b.fails(root, "low", api.ENOENT)
		} else {
			if got := b.v.Root(); got != root {
				t.Errorf("marks %d: Root: %s", x.marks, told(got))
			}
			b.names(root, "empty file link low opaque whole")
			b.leads(root, "whole", api.Node{U: uWhole, L: lWhole})
			b.leads(root, "low", api.Node{L: lFile})
		}
		b.upper.mark(uTop, 0)
		b.upper.mark(uWhole, x.marks)
		if x.opaque {
			b.leads(root, "whole", api.Node{U: uWhole})
			b.names(api.Node{U: uWhole, L: lWhole}, "again")
		} else {
			b.leads(root, "whole", api.Node{U: uWhole, L: lWhole})
			b.names(api.Node{U: uWhole, L: lWhole}, "again inner")
		}
		b.names(root, "empty file link low opaque whole")
		// Marks of what is no directory of the upper branch change nothing.
		for _, ino := range []int{uFile, uLink, uWhite} {
			b.upper.mark(ino, x.marks)
		}
		for _, ino := range []int{1, lTop, lWhole, lFile, lWhite} {
			b.low.mark(ino, x.marks)
		}
		b.leads(root, "file", api.Node{U: uFile})
		b.leads(root, "link", api.Node{U: uLink})
		b.fails(root, "white", api.ENOENT)
		b.fails(root, "hidden", api.ENOENT)
		b.leads(api.Node{L: lTop}, "whole", api.Node{L: lWhole})
		b.leads(api.Node{L: lWhole}, "inner", api.Node{L: lInner})
	}
	b.nodes()
}

// TestKind: P10.1: the kind of each node.
func TestKind(t *testing.T) {
	b := sample(t)
	upper := map[int]int{1: 2, uTop: 2, uWhole: 2, uOpaque: 2, uFile: 1, uLink: 3, uEmpty: 2, uGone: 2, uLost: 1}
	lower := map[int]int{1: 2, lTop: 2, lPad: 2, lWhole: 2, lOpaque: 2, lFile: 1, lLink: 3, lInner: 2, lDeep: 1, lBelow: 1, lGone: 2}
	for _, l := range b.low.numbers() {
		if got := b.v.Kind(api.Node{L: l}); got != lower[l] {
			t.Errorf("Kind of L %d: %d; want %d", l, got, lower[l])
		}
		for _, u := range b.upper.numbers() {
			if u == 0 {
				continue
			}
			if got := b.v.Kind(api.Node{U: u, L: l}); got != upper[u] {
				t.Errorf("Kind of U %d L %d: %d; want %d", u, l, got, upper[u])
			}
		}
	}
	if b.v.Kind(api.Node{U: uWhite}) != 0 || b.v.Kind(api.Node{U: uWhite, L: lFile}) != 0 || b.v.Kind(api.Node{L: lWhite}) != 0 || b.v.Kind(api.Node{}) != 0 {
		t.Errorf("a White has a kind")
	}
}

// TestNoKind: P10.2, P10.3: what has no kind is ENOENT, and what is no directory ENOTDIR, before the name is looked at.
func TestNoKind(t *testing.T) {
	b := sample(t)
	for _, n := range []api.Node{
		{}, {U: -1}, {U: uFree}, {U: 201}, {U: uWhite}, {L: -1}, {L: lFree}, {L: 201}, {L: lWhite},
		{U: uFree, L: lTop}, {U: -1, L: lTop}, {U: 201, L: lFile}, {U: uWhite, L: lTop}, {U: uWhite, L: lFile}, {U: uWhite, L: lLink}, {U: math.MinInt, L: math.MaxInt},
	} {
		for _, name := range append(strangeNames(), "whole", "file") {
			b.fails(n, name, api.ENOENT)
		}
		names, e := b.v.All(n)
		stat, e2 := b.v.Stat(n)
		target, e3 := b.v.Target(n)
		data, e4 := b.v.Read(n, -1, -1)
		if names != nil || stat != (api.Stat{}) || target != "" || data != nil || e != api.ENOENT || e2 != api.ENOENT || e3 != api.ENOENT || e4 != api.ENOENT {
			t.Errorf("%s: %q, %d; %v, %d; %q, %d; %q, %d", told(n), names, e, stat, e2, target, e3, data, e4)
		}
	}
	for _, n := range []api.Node{{U: uFile}, {U: uLink}, {U: uLost}, {L: lFile}, {L: lLink}, {U: uFile, L: lTop}, {U: uLink, L: lTop}, {U: uFile, L: lFile}, {U: uLink, L: 201}} {
		for _, name := range append(strangeNames(), "whole", "file") {
			b.fails(n, name, api.ENOTDIR)
		}
		if names, e := b.v.All(n); names != nil || e != api.ENOTDIR {
			t.Errorf("All of %s: %q, %d", told(n), names, e)
		}
	}
}

// TestGet: P10.2: directories of one branch and of both, with each L.
func TestGet(t *testing.T) {
	b := sample(t)
	root := b.v.Root()
	b.leads(root, "whole", api.Node{U: uWhole, L: lWhole})
	b.leads(root, "opaque", api.Node{U: uOpaque})
	b.leads(root, "file", api.Node{U: uFile})
	b.leads(root, "link", api.Node{U: uLink})
	b.leads(root, "low", api.Node{L: lFile})
	b.leads(root, "empty", api.Node{U: uEmpty})
	b.fails(root, "white", api.ENOENT)
	b.fails(root, "hidden", api.ENOENT)
	b.fails(root, "gone", api.ENOENT)
	b.leads(api.Node{U: uTop}, "whole", api.Node{U: uWhole})
	b.fails(api.Node{U: uTop}, "low", api.ENOENT)
	b.leads(api.Node{L: lTop}, "whole", api.Node{L: lWhole})
	b.leads(api.Node{L: lTop}, "white", api.Node{L: lFile})
	b.leads(api.Node{U: uWhole, L: lWhole}, "inner", api.Node{L: lInner})
	b.leads(api.Node{U: uWhole, L: lWhole}, "again", api.Node{U: uFile})
	b.leads(api.Node{L: lInner}, "deep", api.Node{L: lDeep})
	b.fails(api.Node{U: uOpaque, L: lOpaque}, "below", api.ENOENT)
	b.leads(api.Node{U: uEmpty, L: lOpaque}, "below", api.Node{L: lBelow})
	b.leads(api.Node{U: uGone, L: lTop}, "whole", api.Node{L: lWhole})
	b.fails(api.Node{U: uGone, L: lGone}, "whole", api.ENOENT)
	for _, l := range []int{0, -1, 201, lFree, lFile, lLink, lWhite, lGone} { // an L that is no directory, or has no names, adds none
		b.leads(api.Node{U: uTop, L: l}, "whole", api.Node{U: uWhole})
		b.fails(api.Node{U: uTop, L: l}, "low", api.ENOENT)
		b.names(api.Node{U: uTop, L: l}, "empty file link opaque whole")
		b.names(api.Node{U: uGone, L: l}, "")
	}
	for _, n := range []api.Node{root, {U: uTop}, {L: lTop}, {U: uWhole, L: lWhole}, {U: uOpaque}, {U: uEmpty}, {U: uGone}, {L: lGone}} {
		for _, name := range strangeNames() {
			b.fails(n, name, api.ENOENT)
		}
	}
}

// The things that a name may lead to in one branch.
const (
	nothing   = 0
	opaqueDir = 5
)

// put makes a thing of a sample under a name, if it is one.
func (s *side) put(dir int, name string, what int) int {
	s.t.Helper()
	switch what {
	case nothing:
		return 0
	case opaqueDir:
		ino := s.make(dir, name, api.Dir, "")
		s.mark(ino, api.Opaque)
		return ino
	case api.Link:
		return s.make(dir, name, what, "to")
	}
	return s.make(dir, name, what, "")
}

// TestPairs: P10.2, P10.4: whatever the two branches have under a name, with the lower part counting and not.
func TestPairs(t *testing.T) {
	// What is found of x above and y below, of which a dot stands for nothing: u is x alone, l is y alone, b is both.
	// The columns: below is nothing, a file, a directory, a link, a White.
	table := map[int]string{
		nothing:   ".lll.",
		api.File:  "uuuuu",
		api.Dir:   "uubuu",
		api.Link:  "uuuuu",
		api.White: ".....",
		opaqueDir: "uuuuu",
	}
	for above, row := range table {
		for below := range row {
			u, l := newSide(t), newSide(t)
			u.make(1, "pad", api.File, "")
			l.make(1, "pad1", api.File, "")
			l.make(1, "pad2", api.File, "")
			dir, bare, lower := u.make(1, "dir", api.Dir, ""), u.make(1, "bare", api.Dir, ""), l.make(1, "dir", api.Dir, "")
			x, y := u.put(dir, "name", above), l.put(lower, "name", below)
			b := newBoth(u, l, dir, lower)
			want := map[byte]api.Node{'.': {}, 'u': {U: x}, 'l': {L: y}, 'b': {U: x, L: y}}
			b.pair(api.Node{U: dir, L: lower}, want[row[below]])
			b.pair(api.Node{U: bare, L: lower}, want[table[nothing][below]])
			b.pair(api.Node{L: lower}, want[table[nothing][below]])
			b.pair(api.Node{U: dir}, want[row[0]])
			b.nodes()
			u.mark(dir, api.Opaque)
			b.pair(api.Node{U: dir, L: lower}, want[row[0]])
			b.pair(api.Node{U: dir}, want[row[0]])
			b.nodes()
		}
	}
}

// pair holds what "name" leads to in a node, and the node's names, to one node or none.
func (b *both) pair(n, want api.Node) {
	b.t.Helper()
	size := 1
	if want == (api.Node{}) {
		size = 0
		b.fails(n, "name", api.ENOENT)
		b.names(n, "")
	} else {
		b.leads(n, "name", want)
		b.names(n, "name")
	}
	b.fails(n, "nam", api.ENOENT)
	b.fails(n, "name2", api.ENOENT)
	b.tells(n, api.Stat{Kind: api.Dir, Size: size, Link: 1})
}

// tells holds what is told of a node.
func (b *both) tells(n api.Node, want api.Stat) {
	b.t.Helper()
	if got, e := b.v.Stat(n); got != want || e != api.OK {
		b.t.Errorf("Stat of %s: %v, %d; want %v", told(n), got, e, want)
	}
}

// TestEveryNode: P10.1 to P10.3: every node that the sample's numbers make, right ones and wrong ones.
func TestEveryNode(t *testing.T) {
	b := sample(t)
	b.nodes()
	b.upper.mark(uTop, api.Opaque|2)
	b.upper.mark(uOpaque, 2)
	b.nodes()
}

// TestAllOrder: P10.3: the names of both branches in increasing order, byte by byte, each once, and those that lead nowhere left out.
func TestAllOrder(t *testing.T) {
	u, l := newSide(t), newSide(t)
	names := []string{"\x01", "\x02a", " ", "!", "-", ".a", "...", "0", "10", "2", "9", "A", "B", "Z", "_", "a", "a ", "a\x01", "a.", "aa", "ab", "b", "z", "z\xff", "\x7f", "\x80", "\xc3", "é", "日本", "\xfe", "\xff", "\xff\xff", strings.Repeat("n", 59), strings.Repeat("n", 60)}
	var want []string
	for i, name := range names {
		switch i % 7 {
		case 0: // above alone
			u.make(1, name, api.File, "")
		case 1: // below alone
			l.make(1, name, api.Link, "to")
		case 2: // a directory in both
			u.make(1, name, api.Dir, "")
			l.make(1, name, api.Dir, "")
		case 3: // hidden
			u.make(1, name, api.White, "")
			l.make(1, name, api.Dir, "")
			continue
		case 4: // a White below
			l.make(1, name, api.White, "")
			continue
		case 5: // of two kinds
			u.make(1, name, api.File, "")
			l.make(1, name, api.Dir, "")
		case 6: // a White above nothing
			u.make(1, name, api.White, "")
			continue
		}
		want = append(want, name)
	}
	slices.SortFunc(want, strings.Compare)
	b := newBoth(u, l, 1, 1)
	got, e := b.v.All(b.v.Root())
	if !slices.Equal(got, want) || e != api.OK {
		t.Fatalf("All: %q, %d; want %q", got, e, want)
	}
	b.tells(b.v.Root(), api.Stat{Kind: api.Dir, Size: len(want), Link: 1})
	b.nodes()
}

// TestAllMany: P10.3: as many names as two branches may have in a directory.
func TestAllMany(t *testing.T) {
	u, l := newSide(t), newSide(t)
	var want []string
	for i := range 190 {
		one, two := u.make(1, "u"+strconv.Itoa(1000+i), api.File, ""), l.make(1, "l"+strconv.Itoa(1000+i), api.File, "")
		want = append(want, "u"+strconv.Itoa(1000+i), "l"+strconv.Itoa(1000+i))
		for j := range 19 {
			name := strconv.Itoa(10 + j)
			u.link(1, "x"+name+"-"+strconv.Itoa(1000+i), one)
			l.link(1, "x"+name+"-"+strconv.Itoa(1095+i), two)
			want = append(want, "x"+name+"-"+strconv.Itoa(1000+i), "x"+name+"-"+strconv.Itoa(1095+i))
		}
	}
	slices.Sort(want)
	want = slices.Compact(want)
	v := New(u.b, l.b, 1, 1)
	if got, e := v.All(v.Root()); !slices.Equal(got, want) || e != api.OK {
		t.Fatalf("All: %d names, %d; want %d", len(got), e, len(want))
	}
	if stat, e := v.Stat(v.Root()); stat.Size != len(want) || e != api.OK {
		t.Fatalf("Stat: %v, %d; want size %d", stat, e, len(want))
	}
}

// TestStat: P10.3: the size of a directory is that of its names; the rest is the branch's.
func TestStat(t *testing.T) {
	b := sample(t)
	b.tells(b.v.Root(), api.Stat{Kind: api.Dir, Size: 6, Link: 1})
	b.tells(api.Node{U: uTop}, api.Stat{Kind: api.Dir, Size: 5, Link: 1})
	b.tells(api.Node{L: lTop}, api.Stat{Kind: api.Dir, Size: 6, Link: 1})
	b.tells(api.Node{U: uWhole, L: lWhole}, api.Stat{Kind: api.Dir, Size: 2, Link: 1})
	b.tells(api.Node{U: uWhole, L: 201}, api.Stat{Kind: api.Dir, Size: 1, Link: 1})
	b.tells(api.Node{U: uOpaque, L: lOpaque}, api.Stat{Kind: api.Dir, Size: 0, Link: 1})
	b.tells(api.Node{U: uEmpty}, api.Stat{Kind: api.Dir, Size: 0, Link: 1})
	b.tells(api.Node{U: uEmpty, L: lTop}, api.Stat{Kind: api.Dir, Size: 6, Link: 1})
	b.tells(api.Node{U: uGone}, api.Stat{Kind: api.Dir, Size: 0, Link: 0})
	b.tells(api.Node{U: uGone, L: lTop}, api.Stat{Kind: api.Dir, Size: 6, Link: 0})
	b.tells(api.Node{U: uTop, L: lGone}, api.Stat{Kind: api.Dir, Size: 5, Link: 1})
	b.tells(api.Node{L: lGone}, api.Stat{Kind: api.Dir, Size: 0, Link: 0})
	b.tells(api.Node{U: uFile, L: lFile}, api.Stat{Kind: api.File, Size: len(upperText), Link: 2})
	b.tells(api.Node{U: uFile, L: lTop}, api.Stat{Kind: api.File, Size: len(upperText), Link: 2})
	b.tells(api.Node{L: lFile}, api.Stat{Kind: api.File, Size: len(lowerText), Link: 3})
	b.tells(api.Node{U: uLost}, api.Stat{Kind: api.File, Size: 1, Link: 0})
	b.tells(api.Node{U: uLink, L: lLink}, api.Stat{Kind: api.Link, Size: 2, Link: 1})
	b.tells(api.Node{L: lLink}, api.Stat{Kind: api.Link, Size: 9, Link: 1})
	u, l := newSide(t), newSide(t)
	for _, name := range []string{"a", "b", "c"} {
		u.make(1, name, api.White, "")
		l.make(1, name+name, api.White, "")
	}
	l.make(1, "b", api.File, "")
	b = newBoth(u, l, 1, 1)
	b.tells(b.v.Root(), api.Stat{Kind: api.Dir, Size: 0, Link: 1})
	b.tells(api.Node{L: 1}, api.Stat{Kind: api.Dir, Size: 1, Link: 1})
	u.mark(1, api.Opaque)
	u.drop(1, "b", false)
	b.tells(api.Node{U: 1, L: 1}, api.Stat{Kind: api.Dir, Size: 0, Link: 1})
	u.mark(1, 0)
	b.tells(api.Node{U: 1, L: 1}, api.Stat{Kind: api.Dir, Size: 1, Link: 1})
}

// TestTarget: P10.3: a link's target, and EINVAL of what is no link, in either branch.
func TestTarget(t *testing.T) {
	b := sample(t)
	for _, x := range []struct {
		n    api.Node
		want string
		e    api.Errno
	}{
		{api.Node{U: uLink}, "up", api.OK}, {api.Node{U: uLink, L: lLink}, "up", api.OK}, {api.Node{U: uLink, L: lTop}, "up", api.OK}, {api.Node{L: lLink}, "down/here", api.OK},
		{api.Node{U: uFile}, "", api.EINVAL}, {api.Node{U: uFile, L: lLink}, "", api.EINVAL}, {api.Node{U: uTop, L: lLink}, "", api.EINVAL}, {api.Node{U: uTop, L: lTop}, "", api.EINVAL},
		{api.Node{L: lFile}, "", api.EINVAL}, {api.Node{L: lTop}, "", api.EINVAL}, {api.Node{U: uGone, L: lLink}, "", api.EINVAL},
		{api.Node{U: uWhite, L: lLink}, "", api.ENOENT}, {api.Node{L: lWhite}, "", api.ENOENT}, {api.Node{U: uFree, L: lLink}, "", api.ENOENT}, {api.Node{}, "", api.ENOENT},
	} {
		if got, e := b.v.Target(x.n); got != x.want || e != x.e {
			t.Errorf("Target of %s: %q, %d; want %q, %d", told(x.n), got, e, x.want, x.e)
		}
	}
	long := strings.Repeat("../", 133) + "x"
	b.leads(b.v.Root(), "low", api.Node{L: lFile})
	ino := b.low.make(lTop, "long", api.Link, long)
	if got, e := b.v.Target(api.Node{L: ino}); got != long || e != api.OK {
		t.Errorf("Target of %d bytes: %d bytes, %d", len(long), len(got), e)
	}
}

// TestRead: P10.3: bytes in either branch, at each edge of a file.
func TestRead(t *testing.T) {
	b := sample(t)
	for _, x := range []struct {
		n    api.Node
		off  int64
		size int
		want string
		e    api.Errno
	}{
		{api.Node{U: uFile}, 0, 5, "upper", api.OK}, {api.Node{U: uFile, L: lFile}, 8, 99, "file", api.OK}, {api.Node{U: uFile, L: lTop}, 11, 1, "e", api.OK},
		{api.Node{U: uFile, L: lFile}, 12, 1, "", api.OK}, {api.Node{U: uFile, L: lFile}, 13, 40, "", api.OK}, {api.Node{U: uLost}, 0, 2, "x", api.OK},
		{api.Node{L: lFile}, 0, math.MaxInt, lowerText, api.OK}, {api.Node{L: lFile}, 15, 3, " fi", api.OK}, {api.Node{L: lFile}, 15, 1, " ", api.OK}, {api.Node{L: lFile}, 13, 4, "'s f", api.OK}, {api.Node{L: lFile}, 49, 9, ".", api.OK},
		{api.Node{L: lFile}, 50, 1, "", api.OK}, {api.Node{L: lFile}, math.MaxInt64, math.MaxInt, "", api.OK}, {api.Node{L: lFile}, 0, 0, "", api.OK}, {api.Node{L: lBelow}, 0, 9, "", api.OK},
		{api.Node{L: lFile}, -1, 5, "", api.EINVAL}, {api.Node{L: lFile}, 5, -1, "", api.EINVAL}, {api.Node{U: uFile}, -1, 0, "", api.EINVAL}, {api.Node{U: uFile}, 99, -1, "", api.EINVAL},
		{api.Node{U: uTop, L: lTop}, 0, 1, "", api.EISDIR}, {api.Node{U: uTop, L: lFile}, 0, 1, "", api.EISDIR}, {api.Node{L: lTop}, -1, -1, "", api.EISDIR}, {api.Node{U: uGone, L: lFile}, 0, 1, "", api.EISDIR},
		{api.Node{U: uLink}, 0, 1, "", api.EINVAL}, {api.Node{U: uLink, L: lFile}, 0, 1, "", api.EINVAL}, {api.Node{L: lLink}, 0, 1, "", api.EINVAL},
		{api.Node{U: uWhite, L: lFile}, 0, 1, "", api.ENOENT}, {api.Node{L: lWhite}, -1, -1, "", api.ENOENT}, {api.Node{U: uFree, L: lFile}, 0, 1, "", api.ENOENT}, {api.Node{}, 0, 1, "", api.ENOENT},
	} {
		if got, e := b.v.Read(x.n, x.off, x.size); string(got) != x.want || e != x.e {
			t.Errorf("Read of %s, %d, %d: %q, %d; want %q, %d", told(x.n), x.off, x.size, got, e, x.want, x.e)
		}
	}
}

// TestReadHole: P10.3: a file with a hole, and one as great as may be.
func TestReadHole(t *testing.T) {
	b := sample(t)
	full := strings.Repeat("0123456789abcde\n", api.MaxFile/16)
	great := b.low.make(lTop, "great", api.File, full)
	if data, e := b.v.Read(api.Node{L: great}, 0, math.MaxInt); string(data) != full || e != api.OK {
		t.Errorf("%d bytes, %d", len(data), e)
	}
	if data, e := b.v.Read(api.Node{L: great}, api.MaxFile-3, 9); string(data) != "de\n" || e != api.OK {
		t.Errorf("%q, %d", data, e)
	}
	if n, e := b.upper.b.Write(uFile, 100, []byte("end")); n != 3 || e != api.OK {
		t.Fatalf("%d, %d", n, e)
	}
	if data, e := b.v.Read(api.Node{U: uFile, L: great}, 7, 99); string(data) != " file"+strings.Repeat("\x00", 88)+"end" || e != api.OK {
		t.Errorf("%q, %d", data, e)
	}
}

// TestMemory: R3, P10.3: what is returned is the caller's own.
func TestMemory(t *testing.T) {
	b := sample(t)
	for _, n := range []api.Node{b.v.Root(), {U: uTop}, {L: lTop}, {U: uWhole, L: lWhole}} {
		names, _ := b.v.All(n)
		kept := slices.Clone(names)
		for i := range names {
			names[i] = "spoilt"
		}
		_ = append(names[:0], "more", "and more")
		if again, _ := b.v.All(n); !slices.Equal(again, kept) {
			t.Errorf("All of %s: %q; want %q", told(n), again, kept)
		}
		one, _ := b.v.All(n)
		two, _ := b.v.All(n)
		one[0] = "spoilt"
		if !slices.Equal(two, kept) {
			t.Errorf("two lists of %s share memory", told(n))
		}
	}
	for _, n := range []api.Node{{U: uFile}, {L: lFile}, {L: lDeep}} {
		want := b.part(n).text
		one, _ := b.v.Read(n, 0, 99)
		two, _ := b.v.Read(n, 0, 99)
		clear(one)
		_ = append(one[:0], "more"...)
		if again, _ := b.v.Read(n, 0, 99); string(again) != want || string(two) != want {
			t.Errorf("Read of %s: %q, %q; want %q", told(n), again, two, want)
		}
	}
	b.nodes()
}

// TestChanges: P10.1 to P10.3: a view tells its branches as they are when it is asked.
func TestChanges(t *testing.T) {
	u, l := newSide(t), newSide(t)
	b := newBoth(u, l, 2, 2)
	root := func(want api.Node) {
		t.Helper()
		if got := b.v.Root(); got != want {
			t.Fatalf("Root: %s; want %s", told(got), told(want))
		}
		b.nodes()
	}
	root(api.Node{})
	l.make(1, "l", api.Dir, "")
	root(api.Node{L: 2})
	l.make(2, "a", api.Dir, "")
	l.make(3, "f", api.File, "text")
	u.make(1, "u", api.File, "")
	root(api.Node{L: 2})
	u.drop(1, "u", false)
	u.make(1, "u", api.Dir, "")
	root(api.Node{U: 2, L: 2})
	b.leads(b.v.Root(), "a", api.Node{L: 3})
	u.make(2, "a", api.Dir, "")
	b.leads(b.v.Root(), "a", api.Node{U: 3, L: 3})
	b.names(api.Node{U: 3, L: 3}, "f")
	u.make(3, "f", api.White, "")
	b.names(api.Node{U: 3, L: 3}, "")
	u.drop(3, "f", false)
	u.make(3, "f", api.File, "other")
	b.leads(api.Node{U: 3, L: 3}, "f", api.Node{U: 4})
	u.drop(3, "f", false)
	u.mark(3, api.Opaque)
	b.names(api.Node{U: 3, L: 3}, "")
	b.leads(b.v.Root(), "a", api.Node{U: 3})
	root(api.Node{U: 2, L: 2})
	u.drop(2, "a", true) // held: it still has its number
	b.leads(b.v.Root(), "a", api.Node{L: 3})
	root(api.Node{U: 2, L: 2})
	u.drop(1, "u", false)
	root(api.Node{L: 2})
}

// TestOneBranch: P10.1 to P10.3: the two branches may be the same, and several views may have them.
func TestOneBranch(t *testing.T) {
	s := newSide(t)
	a, c := s.make(1, "a", api.Dir, ""), s.make(1, "c", api.Dir, "")
	s.make(a, "d", api.Dir, "")
	d := s.make(c, "d", api.Dir, "")
	s.make(d, "f", api.File, "text")
	s.make(a, "w", api.White, "")
	s.make(c, "w", api.File, "")
	b, other := newBoth(s, s, a, c), newBoth(s, s, c, a)
	b.names(b.v.Root(), "d")
	other.names(other.v.Root(), "d w")
	b.nodes()
	other.nodes()
}

// lowerTree makes a lower side of each kind, below a directory that isn't its root, with a chain of directories as deep as inodes last.
func lowerTree(t *testing.T) *side {
	l := newSide(t)
	at := l.make(1, "top", api.Dir, "")
	for i := range 45 {
		ino := l.make(at, "f", api.File, strings.Repeat("text ", i))
		l.make(at, "l", api.Link, "../f")
		l.link(at, "g", ino)
		l.make(at, "e", api.Dir, "")
		at = l.make(at, "d", api.Dir, "")
	}
	return l
}

// unchanged holds a node, and all below it, to a directory of the lower branch alone.
func (b *both) unchanged(n api.Node) int {
	b.t.Helper()
	x := b.low.at(n.L)
	b.tells(n, api.Stat{Kind: x.kind, Size: len(x.text) + len(x.names), Link: x.links})
	seen := 1
	switch x.kind {
	case api.File:
		if data, e := b.v.Read(n, 0, api.MaxFile); string(data) != x.text || e != api.OK {
			b.t.Fatalf("%s: %q, %d; want %q", told(n), data, e, x.text)
		}
	case api.Link:
		if target, e := b.v.Target(n); target != x.text || e != api.OK {
			b.t.Fatalf("%s: %q, %d; want %q", told(n), target, e, x.text)
		}
	case api.Dir:
		names, e := b.v.All(n)
		if len(names) != len(x.names) || e != api.OK {
			b.t.Fatalf("%s: %q, %d; want %v", told(n), names, e, x.names)
		}
		for _, name := range names {
			found, e := b.v.Get(n, name)
			if found.L != x.names[name] || e != api.OK {
				b.t.Fatalf("%s, %q: %s, %d; want L %d", told(n), name, told(found), e, x.names[name])
			}
			seen += b.unchanged(found)
		}
	}
	return seen
}

// TestLowerUnchanged: P10.4: over empty directories of the upper branch, however deep they go, the lower branch is seen as it is.
func TestLowerUnchanged(t *testing.T) {
	l := lowerTree(t)
	for depth := range 46 {
		u := newSide(t)
		top := u.make(1, "pad", api.Dir, "")
		top = u.make(top, "top", api.Dir, "")
		at := top
		for range depth {
			at = u.make(at, "d", api.Dir, "")
		}
		b := newBoth(u, l, top, 2)
		if got := b.v.Root(); got != (api.Node{U: top, L: 2}) {
			t.Fatalf("Root: %s", told(got))
		}
		if seen := b.unchanged(b.v.Root()); seen != 1+45*5 {
			t.Fatalf("%d names were seen", seen)
		}
		u.same("upper")
		l.same("lower")
	}
	b := newBoth(newSide(t), l, 0, 2)
	b.unchanged(b.v.Root())
}

// TestUpperAlone: P10.4: over an empty lower directory, and over any when opaque, the upper branch is seen without its Whites.
func TestUpperAlone(t *testing.T) {
	for _, marks := range []int{0, api.Opaque} {
		u, l := newSide(t), newSide(t)
		if marks == api.Opaque {
			l.make(1, "a", api.Dir, "")
			l.make(2, "b", api.Dir, "")
			l.make(3, "c", api.File, "below")
			l.make(1, "z", api.File, "below")
			u.mark(1, marks)
		}
		u.make(1, "a", api.Dir, "")
		u.make(2, "b", api.Dir, "")
		u.make(2, "w", api.White, "")
		u.make(3, "f", api.File, "text")
		b := newBoth(u, l, 1, 1)
		b.names(b.v.Root(), "a")
		b.leads(b.v.Root(), "a", api.Node{U: 2})
		b.names(api.Node{U: 2}, "b")
		b.leads(api.Node{U: 2}, "b", api.Node{U: 3})
		b.names(api.Node{U: 3}, "f")
		b.nodes()
	}
}

// TestHides: P10.4: a White hides one name, with all below it, and an opaque directory all that is below it and nothing beside it.
func TestHides(t *testing.T) {
	u, l := newSide(t), newSide(t)
	for _, top := range []string{"white", "opaque", "plain"} {
		at := l.make(1, top, api.Dir, "")
		for _, name := range []string{"a", "b", "c"} {
			at = l.make(at, name, api.Dir, "")
			l.make(at, "f", api.File, name)
		}
	}
	u.make(1, "white", api.White, "")
	at := u.make(1, "opaque", api.Dir, "")
	u.mark(at, api.Opaque)
	u.make(at, "a", api.Dir, "")
	at = u.make(1, "plain", api.Dir, "")
	at = u.make(at, "a", api.Dir, "")
	at = u.make(at, "b", api.Dir, "")
	u.make(at, "f", api.White, "")
	b := newBoth(u, l, 1, 1)
	b.names(b.v.Root(), "opaque plain")
	for path, want := range map[string]string{"opaque": "a", "opaque/a": "", "plain": "a", "plain/a": "b f", "plain/a/b": "c", "plain/a/b/c": "f"} {
		n := b.v.Root()
		for _, name := range strings.Split(path, "/") {
			n, _ = b.v.Get(n, name)
		}
		b.names(n, want)
	}
	b.nodes()
}
