package merge

import (
	"bytes"
	"math"
	"slices"
	"strconv"
	"strings"
	"testing"

	"veneer/api"
	"veneer/branch"
)

// thing is an inode told the plainest way.
type thing struct {
	kind, marks, links int
	held               bool
	text               string         // a file's bytes, or a link's target
	names              map[string]int // of a directory
}

// side is a branch, and beside it what was put there.
type side struct {
	t      *testing.T
	b      *branch.Branch
	things map[int]*thing
}

func newSide(t *testing.T) *side {
	return &side{t: t, b: branch.New(api.MaxRoom), things: map[int]*thing{1: {kind: api.Dir, links: 1, names: map[string]int{}}}}
}

// ok holds an error to be none.
func (s *side) ok(e api.Errno) {
	s.t.Helper()
	if e != api.OK {
		s.t.Fatalf("a sample isn't made: %d", e)
	}
}

// make makes an inode; text is what a file holds, or where a link leads.
func (s *side) make(dir int, name string, kind int, text string) int {
	s.t.Helper()
	target := ""
	if kind == api.Link {
		target = text
	}
	ino, e := s.b.Make(dir, name, kind, target)
	s.ok(e)
	s.things[ino] = &thing{kind: kind, links: 1, text: text, names: map[string]int{}}
	s.things[dir].names[name] = ino
	if kind == api.File {
		n, e := s.b.Write(ino, 0, []byte(text))
		s.ok(e)
		if n != len(text) {
			s.t.Fatalf("a sample has no room")
		}
	}
	return ino
}

func (s *side) mark(ino, marks int) {
	s.t.Helper()
	s.ok(s.b.Mark(ino, marks))
	s.things[ino].marks = marks
}

func (s *side) link(dir int, name string, ino int) {
	s.t.Helper()
	s.ok(s.b.Link(dir, name, ino))
	s.things[dir].names[name] = ino
	s.things[ino].links++
}

// drop takes a name away. What is held stays without it.
func (s *side) drop(dir int, name string, held bool) {
	s.t.Helper()
	ino := s.things[dir].names[name]
	if held {
		s.ok(s.b.Hold(ino))
	}
	if s.things[ino].kind == api.Dir {
		s.ok(s.b.Rmdir(dir, name))
	} else {
		s.ok(s.b.Unlink(dir, name))
	}
	delete(s.things[dir].names, name)
	x := s.things[ino]
	x.links--
	x.held = x.held || held
	if x.links == 0 && !x.held {
		delete(s.things, ino)
	}
}

// at is the thing of a number, or an empty one.
func (s *side) at(ino int) thing {
	if x := s.things[ino]; x != nil {
		return *x
	}
	return thing{}
}

// same holds the branch to what was put there, whatever was asked in between.
func (s *side) same(what string) {
	s.t.Helper()
	used := 0
	for ino := -2; ino <= api.MaxInode+2; ino++ {
		x := s.at(ino)
		if s.b.Kind(ino) != x.kind || s.b.Marks(ino) != x.marks {
			s.t.Fatalf("%s: %d has the kind %d and the marks %d; want %d, %d", what, ino, s.b.Kind(ino), s.b.Marks(ino), x.kind, x.marks)
		}
		if x.kind == 0 {
			continue
		}
		if stat, e := s.b.Stat(ino); stat != (api.Stat{Kind: x.kind, Size: len(x.text) + len(x.names), Link: x.links}) || e != api.OK {
			s.t.Fatalf("%s: %d is told as %v, %d", what, ino, stat, e)
		}
		entries, _ := s.b.All(ino)
		for _, entry := range entries {
			if x.names[entry.Name] != entry.Ino {
				s.t.Fatalf("%s: %d has %d under %q; want %d", what, ino, entry.Ino, entry.Name, x.names[entry.Name])
			}
		}
		data, _ := s.b.Read(ino, 0, api.MaxFile)
		target, _ := s.b.Target(ino)
		if string(data)+target != x.text {
			s.t.Fatalf("%s: %d holds %q%q; want %q", what, ino, data, target, x.text)
		}
		if x.kind == api.File {
			used += (len(x.text) + api.Chunk - 1) / api.Chunk
		}
	}
	if s.b.Used() != used || s.b.Inodes() != len(s.things) {
		s.t.Fatalf("%s: %d chunks, %d inodes; want %d, %d", what, s.b.Used(), s.b.Inodes(), used, len(s.things))
	}
}

// both is a view, and beside it the two sides from which its answers are worked out in the chapter's words.
type both struct {
	t          *testing.T
	upper, low *side
	u, l       int
	v          *View
	known      []string // all names that are anywhere in one of the sides, and some that are nowhere
}

func newBoth(upper, low *side, u, l int) *both {
	upper.t.Helper()
	v := New(upper.b, low.b, u, l)
	if v == nil {
		upper.t.Fatalf("New(%d, %d): no view", u, l)
	}
	return &both{t: upper.t, upper: upper, low: low, u: u, l: l, v: v}
}

// isOpaque: the lowest bit of the marks is 1.
func (b *both) isOpaque(u int) bool {
	return uint64(b.upper.at(u).marks)%2 == 1
}

// counts: the lower part of a node with an L counts if U is 0, or U is not marked Opaque.
func (b *both) counts(n api.Node) bool {
	return n.L != 0 && (n.U == 0 || !b.isOpaque(n.U))
}

func (b *both) root() api.Node {
	n := api.Node{}
	if b.upper.at(b.u).kind == api.Dir {
		n.U = b.u
	}
	if b.low.at(b.l).kind == api.Dir && (n.U == 0 || !b.isOpaque(n.U)) {
		n.L = b.l
	}
	return n
}

// part is the thing that tells a node.
func (b *both) part(n api.Node) thing {
	if n.U != 0 {
		return b.upper.at(n.U)
	}
	return b.low.at(n.L)
}

func (b *both) kind(n api.Node) int {
	return b.part(n).kind % api.White // a White counts as none
}

// missing: ENOENT if n has no kind.
func (b *both) missing(n api.Node) api.Errno {
	if b.kind(n) == 0 {
		return api.ENOENT
	}
	return api.OK
}

// wrong: ENOENT if n has no kind, and ENOTDIR if its kind is not Dir.
func (b *both) wrong(n api.Node) api.Errno {
	if e := b.missing(n); e != api.OK {
		return e
	}
	if b.kind(n) != api.Dir {
		return api.ENOTDIR
	}
	return api.OK
}

func (b *both) get(n api.Node, name string) (api.Node, api.Errno) {
	if e := b.wrong(n); e != api.OK {
		return api.Node{}, e
	}
	x, has := b.upper.at(n.U).names[name]
	y, hasLower := b.low.at(n.L).names[name]
	if has && b.upper.at(x).kind == api.White {
		return api.Node{}, api.ENOENT
	}
	if has && b.upper.at(x).kind != api.Dir {
		return api.Node{U: x}, api.OK
	}
	if has && b.counts(n) && !b.isOpaque(x) && b.low.at(y).kind == api.Dir {
		return api.Node{U: x, L: y}, api.OK
	}
	if has {
		return api.Node{U: x}, api.OK
	}
	if b.counts(n) && hasLower && b.low.at(y).kind != api.White {
		return api.Node{L: y}, api.OK
	}
	return api.Node{}, api.ENOENT
}

// know gathers the names anew.
func (b *both) know() {
	all := strangeNames()
	for _, s := range []*side{b.upper, b.low} {
		for _, x := range s.things {
			for name := range x.names {
				all = append(all, name)
			}
		}
	}
	slices.Sort(all)
	b.known = slices.Compact(all)
}

// strangeNames are names that are missing, or that no entry may bear.
func strangeNames() []string {
	long := strings.Repeat("n", 60)
	return []string{"", ".", "..", "missing", "Missing", long, long + "n", strings.Repeat("n", 70000), "/", "a/", "/a", "a/x", "\x00", "a\x00", "a/../a"}
}

func (b *both) all(n api.Node) ([]string, api.Errno) {
	if e := b.wrong(n); e != api.OK {
		return nil, e
	}
	var names []string
	for _, name := range b.known {
		if _, e := b.get(n, name); e == api.OK {
			names = append(names, name)
		}
	}
	return names, api.OK
}

func (b *both) stat(n api.Node) (api.Stat, api.Errno) {
	if e := b.missing(n); e != api.OK {
		return api.Stat{}, e
	}
	x := b.part(n)
	names, _ := b.all(n)
	return api.Stat{Kind: x.kind, Size: len(x.text) + len(names), Link: x.links}, api.OK
}

func (b *both) target(n api.Node) (string, api.Errno) {
	if e := b.missing(n); e != api.OK {
		return "", e
	}
	if b.kind(n) != api.Link {
		return "", api.EINVAL
	}
	return b.part(n).text, api.OK
}

func (b *both) read(n api.Node, off int64, size int) (string, api.Errno) {
	if e := b.missing(n); e != api.OK {
		return "", e
	}
	if b.kind(n) == api.Dir {
		return "", api.EISDIR
	}
	if b.kind(n) != api.File || off < 0 || size < 0 {
		return "", api.EINVAL
	}
	text := b.part(n).text
	text = text[min(off, int64(len(text))):]
	return text[:min(size, len(text))], api.OK
}

// told is a node in words.
func told(n api.Node) string {
	return "U " + strconv.Itoa(n.U) + " L " + strconv.Itoa(n.L)
}

// offsets and sizes are such as a file of so many bytes may be read at.
func offsets(size int) []int64 {
	n := int64(size)
	return []int64{math.MinInt64, -n, -1, 0, 1, n / 2, n - 1, n, n + 1, api.MaxFile - 1, api.MaxFile, api.MaxFile + 1, 1 << 32, math.MaxInt64}
}

func sizes(size int) []int {
	return []int{math.MinInt, -size, -1, 0, 1, size / 2, size - 1, size, size + 1, api.MaxFile, 1 << 32, math.MaxInt}
}

// node holds all that is told of a node to what the chapter says.
func (b *both) node(n api.Node) {
	b.t.Helper()
	if got, want := b.v.Kind(n), b.kind(n); got != want {
		b.t.Fatalf("Kind of %s: %d; want %d", told(n), got, want)
	}
	names, e := b.v.All(n)
	if want, err := b.all(n); !slices.Equal(names, want) || e != err {
		b.t.Fatalf("All of %s: %q, %d; want %q, %d", told(n), names, e, want, err)
	}
	stat, e := b.v.Stat(n)
	if want, err := b.stat(n); stat != want || e != err {
		b.t.Fatalf("Stat of %s: %v, %d; want %v, %d", told(n), stat, e, want, err)
	}
	target, e := b.v.Target(n)
	if want, err := b.target(n); target != want || e != err {
		b.t.Fatalf("Target of %s: %q, %d; want %q, %d", told(n), target, e, want, err)
	}
	for _, name := range b.known {
		found, e := b.v.Get(n, name)
		if want, err := b.get(n, name); found != want || e != err {
			b.t.Fatalf("Get of %s, %.70q: %s, %d; want %s, %d", told(n), name, told(found), e, told(want), err)
		}
	}
	b.bytes(n)
}

// bytes holds what is read of a node to what the chapter says.
func (b *both) bytes(n api.Node) {
	b.t.Helper()
	size := len(b.part(n).text)
	for _, off := range offsets(size) {
		for _, many := range sizes(size) {
			data, e := b.v.Read(n, off, many)
			if want, err := b.read(n, off, many); !bytes.Equal(data, []byte(want)) || e != err {
				b.t.Fatalf("Read of %s, %d, %d: %.70q, %d; want %.70q, %d", told(n), off, many, data, e, want, err)
			}
		}
	}
}

// numbers are a side's inodes, and numbers beyond them on both sides.
func (s *side) numbers() []int {
	all := []int{0, -1, -2, -api.MaxInode, math.MinInt, api.MaxInode, api.MaxInode + 1, 1 << 32, 1<<32 + 1, math.MaxInt}
	free := 1
	for ; s.things[free] != nil; free++ {
	}
	all = append(all, free)
	for ino := range s.things {
		all = append(all, ino)
	}
	slices.Sort(all)
	return slices.Compact(all)
}

// nodes holds all that is told of every node that the two sides' numbers make, and then the sides to what was put there.
func (b *both) nodes() {
	b.t.Helper()
	if got := b.v.Root(); got != b.root() {
		b.t.Fatalf("Root: %s; want %s", told(got), told(b.root()))
	}
	b.know()
	lower := b.low.numbers()
	for _, u := range b.upper.numbers() {
		for _, l := range lower {
			b.node(api.Node{U: u, L: l})
		}
	}
	b.upper.same("upper")
	b.low.same("lower")
}
