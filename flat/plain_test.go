package flat

import (
	"slices"
	"strconv"
	"strings"
	"testing"

	"veneer/api"
	"veneer/branch"
	"veneer/merge"
)

// thing is what stands under a name, told the plainest way.
type thing struct {
	ino    int
	kind   int
	opaque bool
	text   string            // a file's bytes, or a link's target
	names  map[string]*thing // of a directory
}

func newThing(ino, kind int, text string) *thing {
	return &thing{ino: ino, kind: kind, text: text, names: map[string]*thing{}}
}

// sorted are a directory's names, in order.
func (x *thing) sorted() []string {
	var names []string
	for name := range x.names {
		names = append(names, name)
	}
	slices.Sort(names)
	return names
}

// side is a branch, and beside it what was put there.
type side struct {
	t   *testing.T
	b   *branch.Branch
	top *thing
}

func newSide(t *testing.T) *side {
	return &side{t: t, b: branch.New(api.MaxRoom), top: newThing(1, api.Dir, "")}
}

// ok holds an error to be none.
func (s *side) ok(e api.Errno) {
	s.t.Helper()
	if e != api.OK {
		s.t.Fatalf("a sample isn't made: %d", e)
	}
}

// in finds the directory of a place such as "a/b/c", which is a/b, and the last name.
func (s *side) in(at string) (*thing, string) {
	s.t.Helper()
	dir := s.top
	names := strings.Split(at, "/")
	for _, name := range names[:len(names)-1] {
		dir = dir.names[name]
	}
	return dir, names[len(names)-1]
}

// put makes something at a place; text is what a file holds, or where a link leads.
func (s *side) put(at string, kind int, text string) int {
	s.t.Helper()
	dir, name := s.in(at)
	target := ""
	if kind == api.Link {
		target = text
	}
	ino, e := s.b.Make(dir.ino, name, kind, target)
	s.ok(e)
	if kind == api.File {
		n, e := s.b.Write(ino, 0, []byte(text))
		s.ok(e)
		if n != len(text) {
			s.t.Fatalf("a sample has no room")
		}
	}
	dir.names[name] = newThing(ino, kind, text)
	return ino
}

func (s *side) dir(at string) int { s.t.Helper(); return s.put(at, api.Dir, "") }

// opaque makes a directory that is marked.
func (s *side) opaque(at string) int {
	s.t.Helper()
	ino := s.dir(at)
	s.ok(s.b.Mark(ino, api.Opaque))
	dir, name := s.in(at)
	dir.names[name].opaque = true
	return ino
}

// again gives a file or a link one name more.
func (s *side) again(old, as string) {
	s.t.Helper()
	dir, name := s.in(old)
	to, last := s.in(as)
	s.ok(s.b.Link(to.ino, last, dir.names[name].ino))
	to.names[last] = dir.names[name]
}

// write writes to a file, which may leave a hole.
func (s *side) write(at string, off int, text string) {
	s.t.Helper()
	dir, name := s.in(at)
	x := dir.names[name]
	_, e := s.b.Write(x.ino, int64(off), []byte(text))
	s.ok(e)
	old := []byte(x.text)
	if missing := off + len(text) - len(old); missing > 0 {
		old = append(old, make([]byte, missing)...)
	}
	copy(old[off:], text)
	x.text = string(old)
}

// seen are the lines of two directories, of which one may be nil, the upper one over the lower one: chapter 10 in plain words.
func seen(u, l *thing, above string) []api.Line {
	if u == nil {
		u = newThing(0, api.Dir, "")
	}
	if l == nil || u.opaque {
		l = newThing(0, api.Dir, "")
	}
	var lines []api.Line
	names := append(u.sorted(), l.sorted()...)
	slices.Sort(names)
	for _, name := range slices.Compact(names) {
		x, y := u.names[name], l.names[name]
		shown := x
		if shown == nil {
			shown = y
		}
		if shown.kind == api.White {
			continue
		}
		at := above + "/" + name
		lines = append(lines, api.Line{Path: at, Kind: shown.kind, Data: shown.text})
		if shown.kind != api.Dir {
			continue
		}
		if x != nil && y != nil && y.kind != api.Dir {
			y = nil
		}
		lines = append(lines, seen(x, y, at)...)
	}
	return lines
}

// same holds a branch to a tree: what it has, under which names, with which numbers.
func same(t *testing.T, what string, b *branch.Branch, top *thing) {
	t.Helper()
	if b == nil {
		t.Fatalf("%s: no branch", what)
	}
	count := map[int]int{}
	chunks := 0
	var visit func(x *thing, at string)
	visit = func(x *thing, at string) {
		count[x.ino]++
		marks := 0
		if x.opaque {
			marks = api.Opaque
		}
		if b.Kind(x.ino) != x.kind || b.Marks(x.ino) != marks {
			t.Fatalf("%s: %q is %d of the kind %d with the marks %d; want %d, %d", what, at, x.ino, b.Kind(x.ino), b.Marks(x.ino), x.kind, marks)
		}
		bytes, _ := b.Read(x.ino, 0, api.MaxFile+1)
		target, _ := b.Target(x.ino)
		if string(bytes)+target != x.text {
			t.Fatalf("%s: %q holds %.70q%q; want %.70q", what, at, bytes, target, x.text)
		}
		entries, _ := b.All(x.ino)
		if len(entries) != len(x.names) {
			t.Fatalf("%s: %q has %v; want %q", what, at, entries, x.sorted())
		}
		for _, entry := range entries {
			y := x.names[entry.Name]
			if y == nil || y.ino != entry.Ino {
				t.Fatalf("%s: %q has %d under %q; want %v", what, at, entry.Ino, entry.Name, y)
			}
			visit(y, at+"/"+entry.Name)
		}
		if x.kind == api.File && count[x.ino] == 1 {
			chunks += filled(b, x.ino)
		}
	}
	visit(top, "")
	if b.Inodes() != len(count) || b.Used() < chunks {
		t.Fatalf("%s: %d inodes, %d chunks; want %d, at least %d", what, b.Inodes(), b.Used(), len(count), chunks)
	}
	for ino, n := range count {
		if stat, e := b.Stat(ino); stat.Link != n || e != api.OK || b.Release(ino) != api.EINVAL {
			t.Fatalf("%s: %d has %d links (want %d), or is held", what, ino, stat.Link, n)
		}
	}
}

// filled is the number of a file's chunks that aren't zero throughout: these at least must be there.
func filled(b *branch.Branch, ino int) int {
	n := 0
	bytes, _ := b.Read(ino, 0, api.MaxFile)
	for part := range slices.Chunk(bytes, api.Chunk) {
		if strings.Trim(string(part), "\x00") != "" {
			n++
		}
	}
	return n
}

// whole holds a branch to the tree that is beside it.
func (s *side) whole(what string) { s.t.Helper(); same(s.t, what, s.b, s.top) }

// is holds lines to others.
func is(t *testing.T, what string, got, want []api.Line) {
	t.Helper()
	for i := range min(len(got), len(want)) {
		if got[i] != want[i] {
			t.Fatalf("%s: line %d is %s; want %s", what, i, told(got[i]), told(want[i]))
		}
	}
	if len(got) != len(want) {
		t.Fatalf("%s: %d lines; want %d", what, len(got), len(want))
	}
}

// told is a line in words.
func told(x api.Line) string {
	return strconv.Quote(x.Path[:min(len(x.Path), 500)]) + " " + strconv.Itoa(x.Kind) + " " + strconv.Quote(x.Data[:min(len(x.Data), 100)])
}

// views holds the lines of two sides, each over the other one, to the plain ones, and the sides to what was put there.
func views(t *testing.T, u, l *side) {
	t.Helper()
	v, back := merge.New(u.b, l.b, 1, 1), merge.New(l.b, u.b, 1, 1)
	for range 2 { // R4: asked again, it tells the same
		is(t, "upper over lower", Of(v), seen(u.top, l.top, ""))
		is(t, "lower over upper", Of(back), seen(l.top, u.top, ""))
	}
	u.whole("upper")
	l.whole("lower")
}

// ground is what lines yield: Tree in plain words.
type ground struct {
	top          *thing
	inodes, used int
}

// plant puts the lines into an empty ground, up to the first error.
func plant(l []api.Line, room int) (*ground, api.Errno) {
	g := &ground{top: newThing(1, api.Dir, ""), inodes: 1}
	if room < 0 || room > 65536 {
		return nil, api.EINVAL
	}
	for _, x := range l {
		if e := g.put(x, room); e != api.OK {
			return nil, e
		}
	}
	return g, api.OK
}

// namesOf are a line's names, and whether its path is one that a line may have.
func namesOf(text string) ([]string, bool) {
	if len(text) == 0 || len(text) > 400 || text[0] != '/' || strings.Count(text, "\x00") > 0 {
		return nil, false
	}
	var names []string
	for part := range strings.SplitSeq(text, "/") {
		if len(part) > 60 {
			return nil, false
		}
		if part != "" && part != "." {
			names = append(names, part)
		}
	}
	if len(names) == 0 || len(names) > 40 || names[len(names)-1] == ".." {
		return nil, false
	}
	return names, true
}

func (g *ground) put(x api.Line, room int) api.Errno {
	names, ok := namesOf(x.Path)
	if !ok {
		return api.EINVAL
	}
	dir := g.top
	for _, name := range names[:len(names)-1] {
		if dir.kind != api.Dir {
			return api.ENOTDIR
		}
		if dir = dir.names[name]; dir == nil {
			return api.ENOENT
		}
	}
	last := names[len(names)-1]
	switch {
	case dir.kind != api.Dir:
		return api.ENOTDIR
	case x.Kind < 1 || x.Kind > 3:
		return api.EINVAL
	case dir.names[last] != nil:
		return api.EEXIST
	case x.Kind == api.Link && (len(x.Data) == 0 || len(x.Data) > 400):
		return api.EINVAL
	case g.inodes == 200:
		return api.ENOSPC
	}
	g.inodes++
	text := x.Data
	switch x.Kind {
	case api.Dir:
		text = ""
	case api.File:
		g.used += (len(text) + 15) / 16
		if len(text) > 65536 || g.used > room {
			return api.ENOSPC
		}
	}
	dir.names[last] = newThing(g.inodes, x.Kind, text)
	return api.OK
}

// grows holds Tree to the plain one.
func grows(t *testing.T, what string, l []api.Line, room int) (*branch.Branch, api.Errno) {
	t.Helper()
	kept := slices.Clone(l)
	b, e := Tree(l, room)
	is(t, what+": what was handed in", l, kept)
	g, want := plant(l, room)
	if e != want {
		t.Fatalf("%s: error %d; want %d", what, e, want)
	}
	if e != api.OK {
		if b != nil {
			t.Fatalf("%s: a branch beside error %d", what, e)
		}
		return nil, e
	}
	same(t, what, b, g.top)
	if b.Used() != g.used {
		t.Fatalf("%s: %d chunks; want %d", what, b.Used(), g.used)
	}
	return b, api.OK
}
