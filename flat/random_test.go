package flat

import (
	"math/rand/v2"
	"strings"
	"testing"

	"veneer/api"
	"veneer/branch"
	"veneer/merge"
)

// pick is one of some.
func pick[T any](r *rand.Rand, some ...T) T {
	return some[r.IntN(len(some))]
}

// dirs are the places of a side's directories, the root's "" first.
func (s *side) dirs() []string {
	all := []string{""}
	var visit func(x *thing, at string)
	visit = func(x *thing, at string) {
		for _, name := range x.sorted() {
			if x.names[name].kind == api.Dir {
				all = append(all, at+name+"/")
				visit(x.names[name], at+name+"/")
			}
		}
	}
	visit(s.top, "")
	return all
}

// grow puts something somewhere, if the name is free.
func (s *side) grow(r *rand.Rand) {
	at := pick(r, s.dirs()...) + pick(r, "a", "b", "c", "a.", "a0", "B")
	dir, name := s.in(at)
	if dir.names[name] != nil {
		return
	}
	one := s.top.names["a"]
	switch kind := pick(r, api.File, api.Dir, api.Dir, api.Dir, api.Link, api.White); {
	case r.IntN(6) == 0 && one != nil && one.kind != api.Dir && one.kind != api.White:
		s.again("a", at)
	case kind == api.Dir && r.IntN(5) == 0:
		s.opaque(at)
	case kind == api.File:
		s.put(at, kind, strings.Repeat("t", r.IntN(40)))
		if r.IntN(3) == 0 {
			s.write(at, r.IntN(200), pick(r, "x", "\x00", "0123456789abcdef!"))
		}
	case kind == api.Link:
		s.put(at, kind, strings.Repeat("../", r.IntN(5))+"to")
	default:
		s.put(at, kind, "")
	}
}

// TestRandomViews: P11.1, P11.4: branches of all shapes, each over the other one, and what is built of their lines.
func TestRandomViews(t *testing.T) {
	for seed := range uint64(300) {
		r := rand.New(rand.NewPCG(seed, 11))
		u, l := newSide(t), newSide(t)
		for range 5 {
			for range r.IntN(12) {
				u.grow(r)
				l.grow(r)
			}
			views(t, u, l)
			rebuilt(t, Of(merge.New(u.b, l.b, 1, 1)))
			rebuilt(t, Of(merge.New(l.b, u.b, 1, 1)))
		}
	}
}

// rebuilt holds a branch that is built of a tree's lines to have them, over an empty branch and under one.
func rebuilt(t *testing.T, l []api.Line) *branch.Branch {
	t.Helper()
	b, e := grows(t, "built again", l, api.MaxRoom)
	if e != api.OK {
		t.Fatalf("the lines of a tree yield no branch: %d", e)
	}
	is(t, "as the upper branch", Of(merge.New(b, branch.New(0), 1, 1)), l)
	is(t, "as the lower branch", Of(merge.New(branch.New(0), b, 1, 1)), l)
	if b.Inodes() != 1+len(l) {
		t.Fatalf("%d inodes of %d lines", b.Inodes(), len(l))
	}
	return b
}

// randomLine is a line that is mostly a good one.
func randomLine(r *rand.Rand) api.Line {
	p := ""
	for range 1 + r.IntN(3) {
		p += pick(r, "/", "/", "/", "//", "/./") + pick(r, "a", "b", "c", "d", "e")
	}
	switch r.IntN(40) {
	case 0:
		p = p[1:]
	case 1:
		p += pick(r, "/", "/.", "/..", "\x00", "/"+strings.Repeat("n", 60), "/"+strings.Repeat("n", 61))
	case 2:
		p = pick(r, "", "/", "/..", "/../a", "/a/../b", strings.Repeat("/a", 40), strings.Repeat("/a", 41))
	}
	kind := pick(r, api.Dir, api.Dir, api.Dir, api.Dir, api.File, api.File, api.Link)
	if r.IntN(40) == 0 {
		kind = pick(r, 0, 4, 5, -1, 1<<32+1)
	}
	return api.Line{Path: p, Kind: kind, Data: pick(r, "to", "to", "to", "", "a longer one, of more than a chunk", "\x00")}
}

// TestRandomTrees: P11.2: lists of all kinds of lines, of which most end at some error, in rooms that are mostly great enough.
func TestRandomTrees(t *testing.T) {
	ends := map[api.Errno]int{}
	for seed := range uint64(20000) {
		r := rand.New(rand.NewPCG(seed, 12))
		var l []api.Line
		for range r.IntN(12) {
			x := randomLine(r)
			// A line that fails ends the list: most of those that would are left out, so that lists get long.
			if _, e := plant(append(l, x), api.MaxRoom); e == api.OK || r.IntN(30) == 0 {
				l = append(l, x)
			}
		}
		_, e := grows(t, "random", l, pick(r, 0, 1, 3, 9, 9, 99, 99, api.MaxRoom, api.MaxRoom+1, -1))
		ends[e]++
	}
	for _, e := range []api.Errno{api.OK, api.ENOENT, api.EEXIST, api.ENOTDIR, api.EINVAL, api.ENOSPC} {
		if ends[e] < 20 {
			t.Errorf("error %d came %d times only", e, ends[e])
		}
	}
}
