package tree

import (
	"math/rand/v2"
	"strings"
	"testing"

	"veneer/api"
)

// paths are paths of a sample: of each kind of end, and wrong ones.
func paths() []string {
	return []string{
		"", "/", ".", "..", "/..", "/./", "d", "d/", "/d/.", "d/..", "d//e", "d/e/", "d/e/..", "d/e/x", "d/e/x/", "d/e/../f",
		"d/f", "d/f/", "d/f/x", "d/f/..", "d/f/.", "g", "g/", "l", "l/", "l/..", "l/x", "la", "la/", "ld", "ld/", "ld/..", "ld/f", "ld/f/", "ld/e", "ld/new", "ld/new/",
		"ln", "ln/", "ln/x", "lx", "lx/", "lo", "lo/", "lo/x", "lo/..", "no", "no/", "no/x", "no/..", "no/x/..", "nothing", "nothing/.",
		strings.Repeat("n", 60), strings.Repeat("n", 61), "d/" + strings.Repeat("n", 61) + "/..", strings.Repeat("/", 400), strings.Repeat("/", 401),
		strings.Repeat("../", 40), strings.Repeat("../", 41), "a\x00", "g/\x00",
	}
}

// TestEveryPath: P9.2: each Op that has one path, with each of the sample's paths.
func TestEveryPath(t *testing.T) {
	b := sample(t)
	for _, a := range paths() {
		for _, op := range []int{api.OpCut, api.OpStat, api.OpLstat, api.OpMkdir, api.OpRmdir, api.OpUnlink, api.OpReadlink, api.OpOpendir} {
			if b.do(api.Call{Op: op, A: a, Off: 3}).E == api.OK {
				b.empty()
				b = sample(t)
			}
		}
	}
	b.empty()
}

// TestEveryTwoPaths: P9.2: each Op that has two paths, with each pair of the sample's.
func TestEveryTwoPaths(t *testing.T) {
	b := sample(t)
	for _, op := range []int{api.OpLink, api.OpSymlink, api.OpRename} {
		for _, x := range paths() {
			for _, y := range paths() {
				if b.do(two(op, x, y)).E == api.OK {
					b.do(of(api.OpStat, y))
					b = sample(t)
				}
			}
		}
	}
	b.empty()
}

// TestOtherFields: P9.2: a call's fields that its Op doesn't have are ignored.
func TestOtherFields(t *testing.T) {
	calls := []api.Call{
		openAs(rwc, "new"), openAs(r, "no"), on(api.OpClose, fdRead), {Op: api.OpRead, Fd: fdBoth, N: 2}, {Op: api.OpWrite, Fd: fdBoth, A: "x"}, {Op: api.OpPread, Fd: fdBoth, N: 2, Off: 1}, {Op: api.OpPwrite, Fd: fdWrite, A: "x", Off: 1},
		{Op: api.OpSeek, Fd: fdBoth, Off: 1, Flag: 2}, {Op: api.OpCut, A: "g", Off: 3}, of(api.OpStat, "l"), of(api.OpLstat, "l"), of(api.OpMkdir, "new"), of(api.OpRmdir, "d/e"), of(api.OpUnlink, "g"), two(api.OpLink, "g", "new"), two(api.OpSymlink, "g", "new"),
		of(api.OpReadlink, "l"), two(api.OpRename, "g", "new"), of(api.OpOpendir, "ld"), on(api.OpReaddir, fdDir), on(api.OpRewind, fdDir),
	}
	for _, c := range calls {
		for _, x := range []api.Call{{Fd: -1, Flag: 1, N: -1, Off: -1, A: "\x00", B: "\x00"}, {Fd: 3, Flag: 63, N: 1 << 50, Off: 1 << 50, A: "d", B: "d"}, {Fd: 99, Flag: -1, N: 3, Off: 7, A: "", B: "no/x"}} {
			want, b := sample(t).do(c), sample(t)
			if got := b.do(other(c, x)); got != want {
				t.Errorf("%s: %s; without the other fields: %s", short(other(c, x)), shortly(got), shortly(want))
			}
		}
	}
}

// other is a call whose fields that its Op doesn't have are those of another one.
func other(c, x api.Call) api.Call {
	has := map[int]string{
		1: "AF", 2: "D", 3: "DN", 4: "DA", 5: "DNO", 6: "DAO", 7: "DOF", 8: "AO", 9: "A", 10: "A",
		11: "A", 12: "A", 13: "A", 14: "AB", 15: "AB", 16: "A", 17: "AB", 18: "A", 19: "D", 20: "D",
	}[c.Op]
	x.Op = c.Op
	for _, field := range has {
		switch field {
		case 'A':
			x.A = c.A
		case 'B':
			x.B = c.B
		case 'D':
			x.Fd = c.Fd
		case 'F':
			x.Flag = c.Flag
		case 'N':
			x.N = c.N
		case 'O':
			x.Off = c.Off
		}
	}
	return x
}

// pick is one of some.
func pick[T any](r *rand.Rand, some ...T) T {
	return some[r.IntN(len(some))]
}

// somePath is a path of few names.
func somePath(r *rand.Rand) string {
	text := pick(r, "", "", "/", "./")
	for i := range 1 + r.IntN(3) {
		if i > 0 {
			text += pick(r, "/", "/", "/", "//", "/./", "/../")
		}
		text += pick(r, "a", "a", "a", "b", "b", "c", "d", "e", "..")
	}
	return text + pick(r, "", "", "", "", "", "/", "/.")
}

// someCall is a call that may well do something.
func someCall(r *rand.Rand, closes bool) api.Call {
	c := api.Call{
		Op: 1 + r.IntN(20), Fd: r.IntN(8), Flag: pick(r, 1, 3, 3, 7, 7, 7, 15, 19, 23, 34, 39, r.IntN(64)), N: int64(r.IntN(40)), Off: int64(r.IntN(60)), A: somePath(r), B: somePath(r),
	}
	switch c.Op {
	case api.OpClose:
		c.Fd = r.IntN(20)
		if !closes {
			c.Op = api.OpMkdir
		}
	case api.OpRename:
		if r.IntN(4) == 0 {
			c.B = c.A
		}
	case api.OpWrite, api.OpPwrite:
		c.A = strings.Repeat(string(rune('a'+r.IntN(26))), r.IntN(40))
	case api.OpSeek:
		c.Flag, c.Off = r.IntN(3), c.Off-20
	}
	switch r.IntN(40) {
	case 0:
		c.Fd = r.IntN(40) - 4
	case 1:
		c.Off = pick[int64](r, -1, 65530, 65536, 65537, 1<<40, 1<<62)
	case 2:
		c.N = pick[int64](r, -1, 65536, 1<<40, -1<<62)
	case 3:
		c.Op = r.IntN(24) - 2
	}
	return c
}

// TestRandom: P9.2, P9.3: calls one after the other, in rooms of each size, against a plain system.
func TestRandom(t *testing.T) {
	for seed := range uint64(240) {
		r := rand.New(rand.NewPCG(seed, 9))
		b := newBoth(t, r.IntN(14))
		for range 250 {
			b.do(someCall(r, seed%4 > 0))
		}
		b.empty()
	}
}

// TestAgain: P9.2: the same calls in the same order give the same results.
func TestAgain(t *testing.T) {
	x, y := sample(t).s, sample(t).s
	r := rand.New(rand.NewPCG(1, 99))
	for range 2000 {
		c := someCall(r, true)
		if a, b := x.Do(c), y.Do(c); a != b {
			t.Fatalf("%s: %s, and %s", short(c), shortly(a), shortly(b))
		}
	}
}
