package copyup

import (
	"slices"
	"strconv"
	"strings"
	"testing"

	"veneer/api"
	"veneer/branch"
	"veneer/flat"
	"veneer/merge"
)

// thing is an inode told the plainest way.
type thing struct {
	ino, kind, marks, links int
	text                    string            // a file's bytes, or a link's target
	chunks                  map[int]bool      // of a file: those that are there
	names                   map[string]*thing // of a directory
}

// sorted are a directory's names, in order.
func (x *thing) sorted() []string {
	var names []string
	for name := range x.names {
		names = append(names, name)
	}
	slices.Sort(names)
	return names
}

// side is a branch, and beside it what is to be in it.
type side struct {
	t    *testing.T
	b    *branch.Branch
	room int
	all  [api.MaxInode + 1]*thing // by their numbers
}

func newSide(t *testing.T, room int) *side {
	s := &side{t: t, b: branch.New(room), room: room}
	s.all[1] = &thing{ino: 1, kind: api.Dir, links: 1, names: map[string]*thing{}}
	return s
}

// used are the chunks of all files.
func (s *side) used() int {
	n := 0
	for _, x := range s.all {
		if x != nil {
			n += len(x.chunks)
		}
	}
	return n
}

// add puts something into the plain tree alone. A file has the chunks that aren't zero throughout.
func (s *side) add(dir *thing, name string, kind int, text string) (*thing, api.Errno) {
	if dir.names[name] != nil {
		return nil, api.EEXIST
	}
	x := &thing{kind: kind, links: 1, text: text, chunks: map[int]bool{}, names: map[string]*thing{}}
	if kind == api.File {
		for i := range len(text) {
			if text[i] != 0 {
				x.chunks[i/api.Chunk] = true
			}
		}
	}
	for ino := 2; ino <= api.MaxInode; ino++ {
		if s.all[ino] != nil {
			continue
		}
		if s.used()+len(x.chunks) > s.room {
			return nil, api.ENOSPC
		}
		x.ino = ino
		s.all[ino] = x
		dir.names[name] = x
		return x, api.OK
	}
	return nil, api.ENOSPC
}

// less takes a name away in the plain tree alone.
func (s *side) less(dir *thing, name string) {
	x := dir.names[name]
	delete(dir.names, name)
	if x.links--; x.links == 0 {
		s.all[x.ino] = nil
	}
}

// ok holds an error to be none.
func (s *side) ok(e api.Errno) {
	s.t.Helper()
	if e != api.OK {
		s.t.Fatalf("a sample isn't made: %d", e)
	}
}

// in finds the directory of a place such as "a/b/c" below top, which is a/b, and the last name.
func in(top *thing, at string) (*thing, string) {
	names := strings.Split(at, "/")
	for _, name := range names[:len(names)-1] {
		top = top.names[name]
	}
	return top, names[len(names)-1]
}

// put makes something at a place below top, in the branch as in the plain tree. All chunks of a file are there.
func (s *side) put(top *thing, at string, kind int, text string) *thing {
	s.t.Helper()
	dir, name := in(top, at)
	target := ""
	if kind == api.Link {
		target = text
	}
	ino, e := s.b.Make(dir.ino, name, kind, target)
	s.ok(e)
	x, e := s.add(dir, name, kind, text)
	s.ok(e)
	if x.ino != ino {
		s.t.Fatalf("a sample's number is %d; want %d", ino, x.ino)
	}
	if kind == api.File {
		s.write(x, 0, text)
	}
	return x
}

// write writes to a file, which may leave a hole.
func (s *side) write(x *thing, off int, text string) {
	s.t.Helper()
	n, e := s.b.Write(x.ino, int64(off), []byte(text))
	s.ok(e)
	if n != len(text) {
		s.t.Fatalf("a sample has no room")
	}
	old := []byte(x.text)
	if missing := off + len(text) - len(old); missing > 0 {
		old = append(old, make([]byte, missing)...)
	}
	copy(old[off:], text)
	x.text = string(old)
	for i := range len(text) {
		x.chunks[(off+i)/api.Chunk] = true
	}
}

// cut makes a file longer, by a hole.
func (s *side) cut(x *thing, size int) {
	s.t.Helper()
	s.ok(s.b.Cut(x.ino, int64(size)))
	x.text += zeros(size - len(x.text))
}

func (s *side) mark(x *thing, marks int) {
	s.t.Helper()
	s.ok(s.b.Mark(x.ino, marks))
	x.marks = marks
}

// again gives something one name more.
func (s *side) again(x *thing, top *thing, as string) {
	s.t.Helper()
	dir, name := in(top, as)
	s.ok(s.b.Link(dir.ino, name, x.ino))
	dir.names[name] = x
	x.links++
}

// drop takes a name away.
func (s *side) drop(top *thing, at string) {
	s.t.Helper()
	dir, name := in(top, at)
	if dir.names[name].kind == api.Dir {
		s.ok(s.b.Rmdir(dir.ino, name))
	} else {
		s.ok(s.b.Unlink(dir.ino, name))
	}
	s.less(dir, name)
}

// same holds the branch to the plain tree, in everything that can be asked.
func (s *side) same(what string) {
	s.t.Helper()
	inodes := 0
	for ino := -1; ino <= api.MaxInode+1; ino++ {
		x := &thing{}
		if ino > 0 && ino <= api.MaxInode && s.all[ino] != nil {
			x = s.all[ino]
			inodes++
		}
		if s.b.Kind(ino) != x.kind || s.b.Marks(ino) != x.marks {
			s.t.Fatalf("%s: %d has the kind %d and the marks %d; want %d, %d", what, ino, s.b.Kind(ino), s.b.Marks(ino), x.kind, x.marks)
		}
		if x.kind != 0 {
			s.sameInode(what, ino, x)
		}
	}
	if s.b.Used() != s.used() || s.b.Inodes() != inodes {
		s.t.Fatalf("%s: %d chunks, %d inodes; want %d, %d", what, s.b.Used(), s.b.Inodes(), s.used(), inodes)
	}
}

func (s *side) sameInode(what string, ino int, x *thing) {
	s.t.Helper()
	stat, e := s.b.Stat(ino)
	if stat != (api.Stat{Kind: x.kind, Size: len(x.text) + len(x.names), Link: x.links}) || e != api.OK || s.b.Release(ino) != api.EINVAL {
		s.t.Fatalf("%s: %d is told as %v, %d, or is held; want %d, %d links", what, ino, stat, e, len(x.text)+len(x.names), x.links)
	}
	bytes, _ := s.b.Read(ino, 0, api.MaxFile+1)
	target, _ := s.b.Target(ino)
	if string(bytes)+target != x.text {
		s.t.Fatalf("%s: %d holds %.70q%q; want %.70q", what, ino, bytes, target, x.text)
	}
	var got, want []api.Entry
	got, _ = s.b.All(ino)
	for _, name := range x.sorted() {
		want = append(want, api.Entry{Name: name, Ino: x.names[name].ino})
	}
	if !slices.Equal(got, want) {
		s.t.Fatalf("%s: %d has %v; want %v", what, ino, got, want)
	}
}

// pair is a copier, and beside it what is to be in its two branches.
type pair struct {
	t              *testing.T
	u, l           *side
	top, work, low *thing
	c              *Copier
	hollow         *merge.View // the upper branch without the lower one
}

// newPair has the root 2 and the work directory 3 in its upper branch, and the root 3 in its lower one.
func newPair(t *testing.T, room int) *pair {
	t.Helper()
	p := &pair{t: t, u: newSide(t, room), l: newSide(t, api.MaxRoom)}
	p.top = p.u.put(p.u.all[1], "up", api.Dir, "")
	p.work = p.u.put(p.u.all[1], "work", api.Dir, "")
	p.l.put(p.l.all[1], "pad", api.File, "beside the lower root")
	p.low = p.l.put(p.l.all[1], "low", api.Dir, "")
	p.c = New(p.u.b, p.l.b, p.top.ino, p.low.ino, p.work.ino)
	if p.c == nil {
		t.Fatalf("no copier")
	}
	p.hollow = merge.New(p.u.b, branch.New(0), p.top.ino, 1)
	return p
}

// over and under put something into the upper branch, or the lower one.
func (p *pair) over(at string, kind int, text string) *thing {
	p.t.Helper()
	return p.u.put(p.top, at, kind, text)
}

func (p *pair) under(at string, kind int, text string) *thing {
	p.t.Helper()
	return p.l.put(p.low, at, kind, text)
}

// marked puts a directory with marks into the upper branch.
func (p *pair) marked(at string, marks int) *thing {
	p.t.Helper()
	x := p.over(at, api.Dir, "")
	p.u.mark(x, marks)
	return x
}

// step tells what stands under a name: an upper thing, a lower one, or both.
func step(x, y *thing, name string) (*thing, *thing, api.Errno) {
	shown := x
	if shown == nil {
		shown = y
	}
	switch {
	case shown == nil:
		return nil, nil, api.ENOENT
	case shown.kind != api.Dir:
		return nil, nil, api.ENOTDIR
	}
	var a, b *thing
	if x != nil {
		a = x.names[name]
	}
	if y != nil && (x == nil || x.marks&1 == 0) {
		b = y.names[name]
	}
	switch {
	case a == nil && (b == nil || b.kind == api.White):
		return nil, nil, api.ENOENT
	case a == nil:
		return nil, b, api.OK
	case a.kind == api.White:
		return nil, nil, api.ENOENT
	case a.kind != api.Dir || b == nil || b.kind != api.Dir || a.marks&1 == 1:
		return a, nil, api.OK
	}
	return a, b, api.OK
}

// find tells what names lead to.
func (p *pair) find(names []string) (x, y *thing, e api.Errno) {
	x, y = p.top, p.low
	if x.marks&1 == 1 {
		y = nil
	}
	for _, name := range names {
		if x, y, e = step(x, y, name); e != api.OK {
			return nil, nil, e
		}
	}
	return x, y, api.OK
}

// shown are the names that are seen in two directories, in order.
func shown(x, y *thing) []string {
	var names []string
	for _, name := range append(x.sorted(), y.sorted()...) {
		if _, _, e := step(x, y, name); e == api.OK {
			names = append(names, name)
		}
	}
	slices.Sort(names)
	return slices.Compact(names)
}

// plainChain is P12.2 on the plain trees.
func (p *pair) plainChain(names []string) (*thing, api.Errno) {
	dir := p.top
	for i, name := range names {
		x, y, e := p.find(names[:i+1])
		switch {
		case e != api.OK:
			return nil, e
		case x != nil && x.kind != api.Dir || x == nil && y.kind != api.Dir:
			return nil, api.ENOTDIR
		case x == nil:
			if x, e = p.u.add(dir, name, api.Dir, ""); e != api.OK {
				return nil, e
			}
		}
		dir = x
	}
	return dir, api.OK
}

// plainUp is P12.3.
func (p *pair) plainUp(names []string) (*thing, api.Errno) {
	if len(names) == 0 {
		return nil, api.EINVAL
	}
	last := names[len(names)-1]
	dir, e := p.plainChain(names[:len(names)-1])
	if e != api.OK {
		return nil, e
	}
	x, y, e := p.find(names)
	switch {
	case e != api.OK:
		return nil, e
	case x != nil:
		return x, api.OK
	case y.kind == api.Dir:
		return p.plainChain(names)
	case y.kind == api.File && p.work.names["c"] != nil:
		return nil, api.EEXIST
	}
	return p.u.add(dir, last, y.kind, y.text)
}

// plainDeep is P12.4.
func (p *pair) plainDeep(names []string) (*thing, api.Errno) {
	x, e := p.plainUp(names)
	if e != api.OK {
		return nil, e
	}
	_, y, _ := p.find(names)
	if x.kind != api.Dir || y == nil || x.marks&1 == 1 {
		return x, api.OK
	}
	for _, name := range shown(x, y) {
		if _, e := p.plainDeep(append(slices.Clone(names), name)); e != api.OK {
			return nil, e
		}
	}
	x.marks = 1
	for _, name := range x.sorted() {
		if x.names[name].kind == api.White {
			p.u.less(x, name)
		}
	}
	return x, api.OK
}

// plainHide is P12.5.
func (p *pair) plainHide(names []string) api.Errno {
	if len(names) == 0 {
		return api.EINVAL
	}
	above, last := names[:len(names)-1], names[len(names)-1]
	if last == "" || last == "." || last == ".." || len(last) > 60 || strings.ContainsAny(last, "\x00/") {
		return api.EINVAL
	}
	dir, e := p.plainChain(above)
	switch {
	case e != api.OK:
		return e
	case dir.names[last] != nil:
		return api.EEXIST
	}
	_, y, _ := p.find(above)
	if y == nil || dir.marks&1 == 1 || y.names[last] == nil || y.names[last].kind == api.White {
		return api.OK
	}
	_, e = p.u.add(dir, last, api.White, "")
	return e
}

// spare are names with room behind them, so that what is written there is found.
func spare(at string) []string {
	var names []string
	if at != "" {
		names = strings.Split(at, "/")
	}
	return append(names, "behind", "it")[:len(names)]
}

// kept holds names to be as they were handed in, with what stands behind them.
func (p *pair) kept(at string, names []string) {
	p.t.Helper()
	if whole := names[:len(names)+2]; !slices.Equal(whole, append(spare(at), "behind", "it")) {
		p.t.Fatalf("%q became %q", at, whole)
	}
}

// whole holds both branches to the plain trees, and the work directory to be empty, but for what a test put there.
func (p *pair) whole(what string) {
	p.t.Helper()
	p.u.same(what + ": upper")
	p.l.same(what + ": lower")
	n, e := p.c.Node(nil)
	if n != p.c.View().Root() || n.U != p.top.ino || e != api.OK {
		p.t.Fatalf("%s: the root is %v, %d", what, n, e)
	}
}

// number is a thing's number, and 0 if there is none.
func number(x *thing) int {
	if x == nil {
		return 0
	}
	return x.ino
}

// copies holds a call that copies to the plain one, of names parted by slashes, and to leave alone what is seen.
func (p *pair) copies(what, at string, call func([]string) (int, api.Errno), plain func([]string) (*thing, api.Errno)) api.Errno {
	p.t.Helper()
	what += " " + strconv.Quote(at[:min(len(at), 200)])
	was := flat.Of(p.c.View())
	names := spare(at)
	got, e := call(names)
	p.kept(at, names)
	want, f := plain(spare(at))
	if got != number(want) || e != f {
		p.t.Fatalf("%s: %d, %d; want %d, %d", what, got, e, number(want), f)
	}
	p.whole(what)
	if !flat.Same(was, flat.Of(p.c.View())) {
		p.t.Fatalf("%s: %v is seen; before it %v", what, flat.Of(p.c.View()), was)
	}
	return e
}

func (p *pair) chain(at string) api.Errno {
	p.t.Helper()
	return p.copies("Chain", at, p.c.Chain, p.plainChain)
}

func (p *pair) up(at string) api.Errno {
	p.t.Helper()
	return p.copies("Up", at, p.c.Up, p.plainUp)
}

func (p *pair) deep(at string) api.Errno {
	p.t.Helper()
	e := p.copies("Deep", at, p.c.Deep, p.plainDeep)
	if e == api.OK && !flat.Same(below(p.c.View(), at), below(p.hollow, at)) {
		p.t.Fatalf("Deep %q: without the lower branch %v is seen", at, below(p.hollow, at))
	}
	return e
}

// below are the lines of a place, and of what is below it.
func below(v *merge.View, at string) []api.Line {
	return slices.DeleteFunc(flat.Of(v), func(x api.Line) bool { return !strings.HasPrefix(x.Path+"/", "/"+at+"/") })
}

// hide holds Hide to the plain one.
func (p *pair) hide(at string) api.Errno {
	p.t.Helper()
	names := spare(at)
	e := p.c.Hide(names)
	p.kept(at, names)
	if want := p.plainHide(spare(at)); e != want {
		p.t.Fatalf("Hide %q: %d; want %d", at, e, want)
	}
	p.whole("Hide " + strconv.Quote(at))
	return e
}

// node holds Node to the plain one.
func (p *pair) node(at string) (api.Node, api.Errno) {
	p.t.Helper()
	names := spare(at)
	n, e := p.c.Node(names)
	p.kept(at, names)
	x, y, want := p.find(spare(at))
	if n != (api.Node{U: number(x), L: number(y)}) || e != want {
		p.t.Fatalf("Node %q: %v, %d; want %d, %d, %d", at, n, e, number(x), number(y), want)
	}
	p.whole("Node " + strconv.Quote(at))
	return n, e
}

// crowd makes files beside the view, until the upper branch has so many numbers left.
func (p *pair) crowd(left int) {
	p.t.Helper()
	for i := p.u.b.Inodes(); i < api.MaxInode-left; i++ {
		p.u.put(p.u.all[1], "beside"+strconv.Itoa(i), api.File, "")
	}
}

func zeros(n int) string { return strings.Repeat("\x00", n) }
