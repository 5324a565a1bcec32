package plan

import (
	"slices"
	"testing"

	"veneer/api"
)

// plainOrder puts wants in order the plainest way: number by number, each ahead of the first one that it precedes.
func plainOrder(l []Want) []Want {
	var all []Want
	for _, w := range l {
		if slices.ContainsFunc(all, func(had Want) bool { return had.Ino == w.Ino }) {
			continue
		}
		for _, x := range l {
			if x.Ino == w.Ino {
				w.Deep = min(w.Deep, x.Deep)
				w.Write = w.Write || x.Write
			}
		}
		at := slices.IndexFunc(all, func(had Want) bool {
			return w.Deep < had.Deep || w.Deep == had.Deep && w.Ino < had.Ino
		})
		if at < 0 {
			at = len(all)
		}
		all = slices.Insert(all, at, w)
	}
	return all
}

// plainClash holds each want to each.
func plainClash(a, b []Want) bool {
	for _, x := range a {
		for _, y := range b {
			if x.Ino == y.Ino && (x.Write || y.Write) {
				return true
			}
		}
	}
	return false
}

// The calls of each kind, as the chapter lists them; OpOpen is in neither list.
var (
	changes = []int{api.OpMkdir, api.OpRmdir, api.OpUnlink, api.OpLink, api.OpSymlink, api.OpRename}
	walks   = []int{api.OpCut, api.OpStat, api.OpLstat, api.OpReadlink, api.OpOpendir, api.OpRewind}
	// writers want their file to write.
	writers = []int{api.OpWrite, api.OpPwrite, api.OpCut, api.OpUnlink, api.OpLink, api.OpRename}
)

// flagged tells whether a flag is among some, of which each is a power of two.
func flagged(c api.Call, flag int) bool { return c.Op == api.OpOpen && c.Flag&flag == flag }

func plainKind(c api.Call) int {
	switch {
	case slices.Contains(changes, c.Op) || flagged(c, api.FlagCreate):
		return 2
	case slices.Contains(walks, c.Op) || c.Op == api.OpOpen:
		return 1
	}
	return 0
}

func plainWants(c api.Call, at []int, file int) []Want {
	var all []Want
	for i, n := range at {
		all = append(all, Want{Deep: i, Ino: n})
	}
	if len(at) > 0 && plainKind(c) == 2 {
		all[len(at)-1].Write = true
	}
	if c.Op == api.OpRename {
		for i := range all {
			all[i].Write = true
		}
	}
	if file != 0 {
		all = append(all, Want{len(at), file, slices.Contains(writers, c.Op) || flagged(c, api.FlagWrite)})
	}
	return plainOrder(all)
}

// within is a copy of a list, as a piece of a longer one: what lies behind it may not change either.
func within[T any](l []T, behind T) []T {
	return append(slices.Clone(l), behind, behind)[:len(l)]
}

// kept tells whether such a piece, and what lies behind it, is as it was.
func kept[T comparable](piece, l []T, behind T) bool {
	return slices.Equal(piece[:len(l)+2], append(slices.Clone(l), behind, behind))
}

// spoil changes a list, and what it has room for behind it.
func spoil(all []Want) {
	all = all[:cap(all)]
	for i := range all {
		all[i] = Want{-7, -7, true}
	}
}

var odd = Want{Deep: -9, Ino: 9, Write: true}

// order holds Order to the plain way, and to its word that it leaves what it is given as it is and shares nothing with it. It answers what Order does.
func order(t *testing.T, l []Want) []Want {
	t.Helper()
	want := plainOrder(l)
	given := within(l, odd)
	for range 2 {
		got := Order(given)
		if !slices.Equal(got, want) {
			t.Fatalf("Order(%v): %v, want %v", l, got, want)
		}
		spoil(got)
		if !kept(given, l, odd) {
			t.Fatalf("Order(%v): what was given is %v", l, given[:len(l)+2])
		}
	}
	return want
}

// clash holds Clash to the plain way, from both sides.
func clash(t *testing.T, a, b []Want) bool {
	t.Helper()
	want := plainClash(a, b)
	x, y := within(a, odd), within(b, odd)
	if got := Clash(x, y); got != want {
		t.Fatalf("Clash(%v, %v): %t, want %t", a, b, got, want)
	}
	if got := Clash(y, x); got != want {
		t.Fatalf("Clash(%v, %v): %t, want %t", b, a, got, want)
	}
	if !kept(x, a, odd) || !kept(y, b, odd) {
		t.Fatalf("Clash(%v, %v): what was given is %v, %v", a, b, x, y)
	}
	return want
}

// wants holds Wants to the plain way. It answers what Wants does.
func wants(t *testing.T, c api.Call, at []int, file int) []Want {
	t.Helper()
	want := plainWants(c, at, file)
	given := within(at, -9)
	for range 2 {
		got := Wants(c, given, file)
		if !slices.Equal(got, want) {
			t.Fatalf("Wants(%v, %v, %d): %v, want %v", c, at, file, got, want)
		}
		spoil(got)
		if !kept(given, at, -9) {
			t.Fatalf("Wants(%v, %v, %d): what was given is %v", c, at, file, given[:len(at)+2])
		}
	}
	return want
}

// kind holds Kind to the plain way.
func kind(t *testing.T, c api.Call) int {
	t.Helper()
	got := Kind(c)
	if want := plainKind(c); got != want {
		t.Fatalf("Kind(%v): %d, want %d", c, got, want)
	}
	return got
}
