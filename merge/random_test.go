package merge

import (
	"math/rand/v2"
	"slices"
	"strings"
	"testing"

	"veneer/api"
	"veneer/branch"
)

// pick is one of some.
func pick[T any](r *rand.Rand, some ...T) T {
	return some[r.IntN(len(some))]
}

// grow does something to a side: mostly a name is made, in any directory that has one.
func (s *side) grow(r *rand.Rand) {
	var dirs []int
	for ino := range s.things {
		if s.things[ino].kind == api.Dir && s.things[ino].links > 0 {
			dirs = append(dirs, ino)
		}
	}
	slices.Sort(dirs)
	dir := pick(r, dirs...)
	name := pick(r, "a", "b", "c", "d", "A")
	ino := s.things[dir].names[name]
	file := s.things[1].names["a"]
	switch x := s.at(ino); {
	case ino == 0 && r.IntN(5) == 0 && s.at(file).kind == api.File && s.at(file).links < api.MaxLink:
		s.link(dir, name, file)
	case ino == 0:
		kind := pick(r, api.File, api.Dir, api.Dir, api.Dir, api.Link, api.White)
		text := ""
		if kind == api.File || kind == api.Link {
			text = strings.Repeat("t", 1+r.IntN(40))
		}
		s.make(dir, name, kind, text)
	case r.IntN(3) == 0:
		s.mark(ino, pick(r, 0, 0, 1, 2, 3, -1, -2))
	case r.IntN(4) == 0 && len(x.names) == 0:
		s.drop(dir, name, r.IntN(4) == 0)
	}
}

// TestRandom: P10.1 to P10.3: branches of all shapes, and every node that their numbers make.
func TestRandom(t *testing.T) {
	for seed := range uint64(60) {
		r := rand.New(rand.NewPCG(seed, 10))
		u, l := newSide(t), newSide(t)
		b := newBoth(u, l, 1+r.IntN(4), 1+r.IntN(4))
		for range 6 {
			for range r.IntN(9) {
				u.grow(r)
				l.grow(r)
			}
			if r.IntN(8) == 0 {
				u.mark(1, r.IntN(4))
			}
			b.nodes()
		}
	}
}

// TestAgain: R4: two views of branches made alike tell the same, and so does one that is asked again.
func TestAgain(t *testing.T) {
	x, y := sample(t), sample(t)
	for _, n := range []api.Node{x.v.Root(), {U: uTop}, {L: lTop}, {U: uWhole, L: lWhole}, {U: uEmpty, L: lTop}} {
		want, _ := x.v.All(n)
		for range 20 {
			one, _ := x.v.All(n)
			two, _ := y.v.All(n)
			if !slices.Equal(one, want) || !slices.Equal(two, want) {
				t.Fatalf("All of %s: %q, %q; want %q", told(n), one, two, want)
			}
		}
	}
}

// TestHolds: P10.4: asking takes no holds: what is taken away afterwards leaves nothing behind.
func TestHolds(t *testing.T) {
	make := func() (*branch.Branch, int) {
		b := branch.New(4)
		dir, _ := b.Make(1, "a", api.Dir, "")
		ino, _ := b.Make(dir, "f", api.File, "")
		b.Write(ino, 0, []byte("text"))
		return b, dir
	}
	u, du := make()
	l, dl := make()
	v := New(u, l, du, dl)
	for _, n := range []api.Node{v.Root(), {U: 3}, {L: 3}, {U: 3, L: 3}} {
		v.Kind(n)
		v.Get(n, "f")
		v.All(n)
		v.Stat(n)
		v.Target(n)
		v.Read(n, 0, 9)
	}
	for _, b := range []*branch.Branch{u, l} {
		if b.Release(2) != api.EINVAL || b.Release(3) != api.EINVAL {
			t.Errorf("an inode is held")
		}
		b.Unlink(2, "f")
		b.Rmdir(1, "a")
		if b.Inodes() != 1 || b.Used() != 0 {
			t.Errorf("%d inodes and %d chunks are left", b.Inodes(), b.Used())
		}
	}
}
