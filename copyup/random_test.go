package copyup

import (
	"math/rand/v2"
	"strings"
	"testing"

	"veneer/api"
)

// pick is one of some.
func pick[T any](r *rand.Rand, some ...T) T {
	return some[r.IntN(len(some))]
}

// dirs are the places of a side's directories below top, the top's "" first.
func dirs(top *thing) []string {
	all := []string{""}
	var visit func(x *thing, at string)
	visit = func(x *thing, at string) {
		for _, name := range x.sorted() {
			if x.names[name].kind == api.Dir {
				all = append(all, at+name+"/")
				visit(x.names[name], at+name+"/")
			}
		}
	}
	visit(top, "")
	return all
}

// grow puts something somewhere below top, if the name is free.
func (s *side) grow(r *rand.Rand, top *thing) {
	at := pick(r, dirs(top)...) + pick(r, "a", "b", "c", "a.", "B")
	dir, name := in(top, at)
	if dir.names[name] != nil {
		return
	}
	one := top.names["a"]
	kind := pick(r, api.File, api.File, api.Dir, api.Dir, api.Dir, api.Link, api.White)
	switch {
	case r.IntN(8) == 0 && one != nil && one.kind != api.Dir:
		s.again(one, top, at)
	case kind == api.Dir:
		x := s.put(top, at, kind, "")
		s.mark(x, pick(r, 0, 0, 0, 0, 0, 1, 2, 3))
	case kind == api.File:
		text := pick(r, "", "x", "0123456789abcdef!", zeros(20), zeros(16)+"x")
		if s.used()+2 > s.room {
			text = ""
		}
		x := s.put(top, at, kind, text)
		if r.IntN(3) == 0 {
			s.cut(x, len(text)+r.IntN(40))
		}
	case kind == api.Link:
		s.put(top, at, kind, strings.Repeat("../", r.IntN(5))+"to")
	default:
		s.put(top, at, kind, "")
	}
}

// goal is a name that is likely to be there, or not.
func (p *pair) goal(r *rand.Rand) string {
	if r.IntN(60) == 0 {
		return pick(r, "", ".", "..", "a/.", "a/..", "a\x00", "b/"+strings.Repeat("n", 61), "none/a", "/", "a/")
	}
	return pick(r, append(dirs(p.low), dirs(p.top)...)...) + pick(r, "a", "b", "c", "a.", "B", "none")
}

// do does one call that is picked, and tells its error.
func (p *pair) do(r *rand.Rand) api.Errno {
	p.t.Helper()
	at := p.goal(r)
	switch r.IntN(9) {
	case 0:
		_, e := p.node(at)
		return e
	case 1:
		return p.chain(at)
	case 2, 3, 4:
		return p.up(at)
	case 5:
		return p.deep(at)
	}
	return p.hide(at)
}

// change writes, cuts or takes away something in the upper branch, as the layers above do in between.
func (p *pair) change(r *rand.Rand) {
	p.t.Helper()
	at := p.goal(r)
	x, _, e := p.find(spare(at))
	switch {
	case e != api.OK || x == nil:
		return
	case x.kind == api.File && r.IntN(2) == 0 && p.u.used() < p.u.room:
		p.u.write(x, 0, "y")
	case x.kind != api.Dir || len(x.names) == 0:
		p.u.drop(p.top, at)
	}
}

// TestRandom: P12.1 to P12.6: branches of all shapes, and any calls on them, in rooms and with numbers that don't always do.
func TestRandom(t *testing.T) {
	ends := map[api.Errno]int{}
	for seed := range uint64(1500) {
		r := rand.New(rand.NewPCG(seed, 12))
		p := newPair(t, pick(r, 2, 5, 9, 30, api.MaxRoom))
		p.u.mark(p.top, pick(r, 0, 0, 0, 0, 0, 0, 0, 2, 3))
		for range r.IntN(25) {
			p.l.grow(r, p.low)
		}
		for range r.IntN(15) {
			p.u.grow(r, p.top)
		}
		if r.IntN(4) == 0 {
			p.crowd(r.IntN(8))
		}
		if r.IntN(20) == 0 && p.u.b.Inodes() < api.MaxInode {
			p.u.put(p.work, "c", pick(r, api.File, api.Dir, api.White), "")
		}
		for range 1 + r.IntN(15) {
			ends[p.do(r)]++
			p.change(r)
		}
	}
	for _, e := range []api.Errno{api.OK, api.ENOENT, api.EEXIST, api.ENOTDIR, api.EINVAL, api.ENOSPC} {
		if ends[e] < 20 {
			t.Errorf("error %d came %d times only", e, ends[e])
		}
	}
}
