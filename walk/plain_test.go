package walk

import (
	"math/rand/v2"
	"slices"
	"strings"
	"testing"

	"veneer/api"
	"veneer/branch"
	"veneer/path"
)

// plain walks link by link within link, without a list of what remains.
type plain struct {
	tree   Tree
	follow bool
	links  int
}

// walk goes through names from a directory on, after which so many others remain.
func (w *plain) walk(at int, names []string, others int, dir bool) (Found, api.Errno) {
	for i, name := range names {
		rest := len(names) - i - 1 + others
		if w.tree.Kind(at) != api.Dir {
			return Found{}, api.ENOTDIR
		}
		if name == ".." {
			at = w.tree.Parent(at)
		}
		if name == "." || name == ".." {
			continue
		}
		ino, e := w.tree.Get(at, name)
		if e == api.ENOENT && rest == 0 {
			return Found{Dir: at, Name: name}, e
		}
		if e != api.OK {
			return Found{}, e
		}
		if w.tree.Kind(ino) == api.Link && (rest > 0 || w.follow || dir) {
			f, e := w.link(at, ino, rest, dir)
			if e != api.OK || rest == 0 {
				return f, e
			}
			ino = f.Ino
		} else if rest == 0 {
			if dir && w.tree.Kind(ino) != api.Dir {
				return Found{}, api.ENOTDIR
			}
			return Found{Dir: at, Name: name, Ino: ino}, api.OK
		}
		at = ino
	}
	return Found{Dir: at, Ino: at}, api.OK
}

// link goes where a link leads that stands in a directory.
func (w *plain) link(at, ino, rest int, dir bool) (Found, api.Errno) {
	if w.links++; w.links > 40 {
		return Found{}, api.ELOOP
	}
	target, e := w.tree.Target(ino)
	if e != api.OK {
		return Found{}, e
	}
	p, e := path.Parse(target)
	if e != api.OK {
		return Found{}, e
	}
	if len(p.Names)+rest > 400 {
		return Found{}, api.ENAMETOOLONG
	}
	if target[0] == '/' {
		at = 1
	}
	return w.walk(at, p.Names, rest, rest == 0 && (dir || p.Dir))
}

// checked walks both ways, and holds what comes of it to P6.2.
func checked(t *testing.T, tree Tree, p api.Path, follow bool) (Found, api.Errno) {
	t.Helper()
	f, e := Walk(tree, p, follow)
	w := plain{tree: tree, follow: follow}
	if want, wantE := w.walk(1, p.Names, 0, p.Dir); f != want || e != wantE {
		t.Fatalf("%q, follow %t: %v, %d, want %v, %d", path.Text(p), follow, f, e, want, wantE)
	}
	if f == (Found{}) {
		if e == api.OK {
			t.Fatalf("%q, follow %t: nothing, and no error", path.Text(p), follow)
		}
		return f, e
	}
	ino, eGet := f.Dir, api.OK
	if f.Name != "" || e == api.ENOENT {
		ino, eGet = tree.Get(f.Dir, f.Name)
	}
	if f.Ino != ino || e != eGet || tree.Kind(f.Dir) != api.Dir {
		t.Fatalf("%q, follow %t: %v, %d, but there is %d, %d", path.Text(p), follow, f, e, ino, eGet)
	}
	return f, e
}

// names are those that lead from the root to a directory.
func names(b *branch.Branch, dir int) []string {
	var all []string
	for dir != 1 {
		up := b.Parent(dir)
		entries, _ := b.All(up)
		at := slices.IndexFunc(entries, func(x api.Entry) bool { return x.Ino == dir })
		all = append([]string{entries[at].Name}, all...)
		dir = up
	}
	return all
}

// likeTarget holds a path that ends with a followed link to the one that its target is (P6.2).
func likeTarget(t *testing.T, b *branch.Branch, p api.Path, link Found, f Found, e api.Errno) {
	t.Helper()
	target, _ := b.Target(link.Ino)
	q, bad := path.Parse(target)
	if bad != api.OK {
		if f != (Found{}) || e != bad {
			t.Fatalf("%q: %v, %d, but the target is none: %d", path.Text(p), f, e, bad)
		}
		return
	}
	if !strings.HasPrefix(target, "/") {
		// The `.` says that the link's directory itself is found if the target has no names.
		q.Names = slices.Concat(names(b, link.Dir), []string{"."}, q.Names)
	}
	q.Dir = q.Dir || p.Dir
	if want, wantE := Walk(b, q, true); f != want || e != wantE {
		t.Fatalf("%q: %v, %d, but its target %q: %v, %d", path.Text(p), f, e, path.Text(q), want, wantE)
	}
}

// everyWay walks a path with and without follow and Dir.
func everyWay(t *testing.T, b *branch.Branch, some []string) {
	t.Helper()
	for _, dir := range []bool{false, true} {
		p := api.Path{Names: some, Dir: dir}
		f, e := checked(t, b, p, true)
		still, stillE := checked(t, b, p, false)
		link := still
		if dir {
			link, stillE = checked(t, b, api.Path{Names: some}, false)
		}
		if stillE == api.OK && link.Name != "" && b.Kind(link.Ino) == api.Link {
			likeTarget(t, b, p, link, f, e)
		} else if !dir && (f != still || e != stillE) {
			t.Fatalf("%q: %v, %d, and with follow %v, %d", path.Text(p), still, stillE, f, e)
		}
		if again, againE := Walk(b, p, true); again != f || againE != e {
			t.Fatalf("%q: %v, %d, and then %v, %d", path.Text(p), f, e, again, againE)
		}
	}
}

// state is all that a branch tells of itself.
type state struct {
	used, inodes int
	all          [203]one
}

// one is an inode.
type one struct {
	stat            api.Stat
	parent, marks   int
	target, entries string
}

func stated(b *branch.Branch) state {
	s := state{used: b.Used(), inodes: b.Inodes()}
	for ino := range s.all {
		stat, _ := b.Stat(ino)
		target, _ := b.Target(ino)
		entries, _ := b.All(ino)
		text := ""
		for _, x := range entries {
			text += x.Name + "\x00" + string(rune(x.Ino)) + "\x00"
		}
		s.all[ino] = one{stat: stat, parent: b.Parent(ino), marks: b.Marks(ino), target: target, entries: text}
	}
	return s
}

// TestEveryPath: P6.1 and P6.2, each path of up to three names of a sample, all of its names and some that are missing.
func TestEveryPath(t *testing.T) {
	b := planted(t, things())
	before := stated(b)
	all := []string{".", "..", "x", ""}
	for _, x := range things() {
		if !slices.Contains(all, x.name) {
			all = append(all, x.name)
		}
	}
	everyWay(t, b, nil)
	for _, x := range all {
		everyWay(t, b, []string{x})
		for _, y := range all {
			everyWay(t, b, []string{x, y})
			for _, z := range all {
				everyWay(t, b, []string{x, y, z})
			}
		}
	}
	if stated(b) != before {
		t.Error("the branch has changed")
	}
}

// pick is one of some.
func pick[T any](r *rand.Rand, some ...T) T {
	return some[r.IntN(len(some))]
}

// text is one of a path, often of a good one.
func text(r *rand.Rand) string {
	s := pick(r, "", "", "/", "//", "./")
	for i := range 1 + r.IntN(4) {
		if i > 0 {
			s += pick(r, "/", "/", "//", "/./")
		}
		s += pick(r, "a", "b", "c", "d", "a", "b", "c", "d", "..", "..", ".", "x")
	}
	s += pick(r, "", "", "", "/", "/.", "/..")
	if r.IntN(60) == 0 {
		s += pick(r, "\x00", "/"+strings.Repeat("n", 61), strings.Repeat("/a", 41))
	}
	return s
}

// grown is a branch of any kind of inodes with few names.
func grown(r *rand.Rand) *branch.Branch {
	b := branch.New(0)
	for range 4 + r.IntN(40) {
		kind, target := pick(r, api.File, api.Dir, api.Dir, api.Dir, api.Link, api.Link, api.Link, api.White), ""
		if kind == api.Link {
			target = text(r)
		}
		b.Make(1+r.IntN(b.Inodes()), pick(r, "a", "b", "c", "d"), kind, target)
	}
	return b
}

// TestRandom: P6.1 and P6.2, paths of any length in branches of any kind.
func TestRandom(t *testing.T) {
	r := rand.New(rand.NewPCG(6, 1))
	ends := map[api.Errno]int{}
	for range 1500 {
		b := grown(r)
		before := stated(b)
		for range 60 {
			p, e := path.Parse(text(r))
			if e != api.OK {
				continue
			}
			if r.IntN(8) == 0 {
				p.Names = slices.Repeat(p.Names, 1+r.IntN(200))
			}
			_, e = checked(t, b, p, true)
			ends[e]++
			_, e = checked(t, b, p, false)
			ends[e]++
		}
		if stated(b) != before {
			t.Fatal("the branch has changed")
		}
	}
	for _, e := range []api.Errno{api.OK, api.ENOENT, api.ENOTDIR, api.EINVAL, api.ENAMETOOLONG, api.ELOOP} {
		if ends[e] < 50 {
			t.Errorf("only %d walks end with %d", ends[e], e)
		}
	}
}

// TestPathKept: P6.1, R3, the path that is handed in is not changed, nor what lies behind its last name.
func TestPathKept(t *testing.T) {
	b := planted(t, things())
	for _, some := range []string{
		"chain d f", "rel", "chain2", "a d up up", "top top top a b", "dot . .. rel .. x", "self", "zero", "file x",
		"grow x", "a self b", "slash", "gone", "lost y", "odd f",
	} {
		for _, dir := range []bool{false, true} {
			for _, follow := range []bool{false, true} {
				want := append(strings.Fields(some), slices.Repeat([]string{"kept"}, 100)...)
				full := slices.Clone(want)
				p := api.Path{Names: full[:len(want)-100], Dir: dir}
				Walk(b, p, follow)
				if !slices.Equal(full, want) || len(p.Names) != len(want)-100 || p.Dir != dir {
					t.Errorf("%q has become %q, Dir %t", some, full, p.Dir)
				}
			}
		}
	}
}

// TestTreeKept: P6.1, R3, a branch is not changed, whatever marks, holds and contents it has.
func TestTreeKept(t *testing.T) {
	b := planted(t, things())
	b.Write(fileB, 0, []byte("text"))
	b.Mark(dirA, api.Opaque)
	b.Hold(empty)
	before := stated(b)
	for _, x := range things() {
		for _, follow := range []bool{false, true} {
			Walk(b, way(false, x.name), follow)
			Walk(b, way(true, "a", "d", x.name), follow)
			Walk(b, way(false, x.name, "new"), follow)
		}
	}
	if stated(b) != before {
		t.Error("the branch has changed")
	}
	if data, e := b.Read(fileB, 0, 9); string(data) != "text" || e != api.OK {
		t.Errorf("%q, %d", data, e)
	}
	if b.Rmdir(1, "e") != api.OK || b.Release(empty) != api.OK || b.Kind(empty) != 0 {
		t.Error("the hold has changed")
	}
}
