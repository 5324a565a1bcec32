package branch

import (
	"math/rand/v2"
	"strconv"
	"testing"

	"veneer/api"
)

// sound holds a branch to P5.7, by what it tells of itself alone.
func sound(t *testing.T, b *Branch) {
	t.Helper()
	links, inodes := map[int]int{1: 1}, 0
	for ino := 1; ino <= 200; ino++ {
		if b.Kind(ino) != 0 {
			inodes++
		}
		all, _ := b.All(ino)
		for _, x := range all {
			links[x.Ino]++
			if b.Kind(x.Ino) == 0 || b.Kind(x.Ino) == api.Dir && b.Parent(x.Ino) != ino {
				t.Errorf("%q in %d refers to %d: kind %d, parent %d", x.Name, ino, x.Ino, b.Kind(x.Ino), b.Parent(x.Ino))
			}
		}
	}
	if inodes != b.Inodes() {
		t.Errorf("%d inodes, and %d are told", inodes, b.Inodes())
	}
	for ino := 1; ino <= 200; ino++ {
		if s, _ := b.Stat(ino); s.Link != links[ino] {
			t.Errorf("%d has %d links and %d names", ino, s.Link, links[ino])
		}
		if b.Kind(ino) == api.Dir && links[ino] > 0 && !fromRoot(b, ino) {
			t.Errorf("%d isn't reached from the root", ino)
		}
	}
}

// fromRoot tells whether a directory's parents lead to the root.
func fromRoot(b *Branch, dir int) bool {
	for range 200 {
		if dir == 1 {
			return true
		}
		dir = b.Parent(dir)
	}
	return false
}

// pick is one of some.
func pick[T any](r *rand.Rand, some ...T) T {
	return some[r.IntN(len(some))]
}

// letters are n bytes, of which none is 0.
func letters(r *rand.Rand, n int) []byte {
	data := make([]byte, n)
	for i := range data {
		data[i] = byte(1 + r.IntN(255))
	}
	return data
}

// TestEveryPair: P5.2 to P5.5, on a sample with each number and each name that matters: which error comes first, and what is done.
func TestEveryPair(t *testing.T) {
	x := sample(t)
	numbers := []int{-1, 0, 1, full, sub, file, link, white, empty, goneDir, goneFile, removed, 200, 201}
	names := []string{"full", "sub", "file", "again", "link", "white", "empty", "n", "", "..", "/"}
	redo := func(e api.Errno) {
		if e == api.OK {
			x = sample(t)
		}
	}
	for _, dir := range numbers {
		for _, name := range names {
			x.get(dir, name)
			redo(x.unlink(dir, name))
			redo(x.rmdir(dir, name))
			for _, to := range numbers {
				redo(x.link(dir, name, to))
				for _, as := range names {
					redo(x.rename(dir, name, to, as))
				}
			}
			for kind := -1; kind <= 6; kind++ {
				for _, target := range []string{"", "t"} {
					_, e := x.make(dir, name, kind, target)
					redo(e)
				}
			}
		}
	}
}

// step makes a call of any kind, with numbers up to most and names out of some.
func (x *both) step(r *rand.Rand, most int, names []string) {
	x.t.Helper()
	ino, dir, to := r.IntN(most), r.IntN(most), r.IntN(most)
	name, as := pick(r, names...), pick(r, names...)
	switch r.IntN(16) {
	case 0, 1, 2:
		x.make(dir, name, pick(r, 1, 2, 2, 4, 5), pick(r, "", "", "", "t"))
	case 3:
		x.make(dir, name, 3, pick(r, "", "t", "/a/b"))
	case 4:
		x.get(dir, name)
	case 5:
		x.link(dir, name, ino)
	case 6:
		x.unlink(dir, name)
	case 7:
		x.rmdir(dir, name)
	case 8, 9:
		x.rename(dir, name, to, as)
	case 10, 11:
		x.write(ino, pick[int64](r, -1, 0, 0, 3, 15, 16, 40, 300), letters(r, r.IntN(50)))
	case 12:
		x.read(ino, int64(r.IntN(60)-1), r.IntN(60)-1)
	case 13:
		x.cut(ino, int64(r.IntN(60)-1))
	case 14:
		x.hold(ino)
	case 15:
		x.release(ino)
		x.mark(to, r.IntN(5))
	}
}

// TestRandom: P5.1 to P5.7, many calls in any order on a few inodes.
func TestRandom(t *testing.T) {
	r := rand.New(rand.NewPCG(5, 1))
	names := []string{"a", "b", "c", "d", "b", "c", "..", ""}
	for range 60 {
		x := newBoth(t, r.IntN(12))
		for range 300 {
			x.step(r, 12, names)
		}
		sound(t, x.b)
	}
}

// TestRandomMany: P5.1 to P5.7, many calls in any order while nearly all numbers are taken.
func TestRandomMany(t *testing.T) {
	r := rand.New(rand.NewPCG(5, 2))
	names := []string{"."}
	for i := range 40 {
		names = append(names, strconv.Itoa(i))
	}
	x := newBoth(t, 40)
	for range 6 {
		for range 400 {
			x.make(r.IntN(203), pick(r, names...), pick(r, 1, 2, 2, 4), "")
		}
		sound(t, x.b)
		for range 1200 {
			x.step(r, 203, names)
		}
		sound(t, x.b)
	}
}
