package union

import (
	"strings"
	"testing"

	"veneer/api"
)

// paths are paths of a sample: to names of the upper branch, of the lower one, of both, to hidden ones, and wrong ones.
func paths() []string {
	return []string{
		"", "/", ".", "..", "d", "d/", "/d/.", "d/..", "d/e", "d/e/", "d/e/..", "d/f", "d/f/", "d/f/x", "d/g", "d/l", "d/l/", "d/s", "d/s/t", "d/s/u", "d/s/k", "d/s/../f", "d/new", "d/new/", "d/new/x",
		"f", "f/", "g", "h", "k", "k/", "k/f", "k/s/new", "k/..", "ko", "ko/x", "kn", "kx", "kx/",
		"m", "m/a", "m/b", "m/c", "m/c/", "m/n", "m/p", "m/p/", "m/p/q", "m/p/new", "m/v", "m/v/x", "m/x", "o", "o/x", "o/y", "o/y/z", "o/i", "o/new", "q", "q/", "q/a", "qd", "qd/", "qd/x",
		"r", "r/1", "r/2", "r/2/3", "t", "t/i", "t/j", "t/n", "t/w", "t/w/x", "v", "v/", "v/z", "w", "w/", "y", "yy", "yy/w", "z", "z/x", "new", "new/", "new/x",
		strings.Repeat("n", 60), strings.Repeat("n", 61), strings.Repeat("../", 41), "a\x00",
	}
}

// TestEveryPath: P13.2: each Op that has one path, with each of the sample's paths: the results, the lines and the descriptors are the model's.
func TestEveryPath(t *testing.T) {
	t.Parallel()
	b := watched(t)
	for _, a := range paths() {
		for _, op := range []int{api.OpCut, api.OpStat, api.OpLstat, api.OpMkdir, api.OpRmdir, api.OpUnlink, api.OpReadlink, api.OpOpendir} {
			for _, off := range []int64{-1, 3, 40, api.MaxFile + 1} {
				if b.do(api.Call{Op: op, A: a, Off: off}).E == api.OK && op != api.OpStat && op != api.OpLstat && op != api.OpReadlink {
					b.tellAll()
					b = watched(t)
				}
				if op != api.OpCut {
					break
				}
			}
		}
	}
	b.tellAll()
}

// TestEveryFlag: P13.2: OpOpen with all flags, on each of the sample's paths; what was opened is written and read.
func TestEveryFlag(t *testing.T) {
	t.Parallel()
	b := watched(t)
	for _, a := range paths() {
		for flag := range 64 {
			if b.do(openAs(flag, a)).E == api.OK {
				fd := len(b.s.Open()) - 1
				b.do(write(fd, "some"))
				b.do(read(fd, 3))
				b.do(pwrite(fd, "more", 18))
				b = watched(t)
			}
		}
	}
}

// pairs are the paths that are paired with each other: one or two of each kind.
func pairs() []string {
	return []string{
		"", "/", "..", "d", "d/", "d/e", "d/e/", "d/f", "d/f/", "d/l", "d/s", "d/s/t", "d/s/u", "d/s/new", "d/new", "f", "g", "k", "k/f", "ko", "ko/x", "kn", "kx",
		"m", "m/b", "m/c", "m/n", "m/p", "m/p/q", "m/p/new", "m/v", "m/x", "o", "o/x", "o/y", "o/i", "q", "qd", "r", "r/1", "t", "t/i", "t/n", "t/w", "v", "v/z", "w", "y", "yy", "z", "new", "new/", "new/x",
	}
}

// TestEveryTwoPaths: P13.2: each Op that has two paths, with each pair of them.
func TestEveryTwoPaths(t *testing.T) {
	for name, op := range map[string]int{"Link": api.OpLink, "Symlink": api.OpSymlink, "Rename": api.OpRename} {
		t.Run(name, func(t *testing.T) {
			t.Parallel()
			from := pairs()
			if op == api.OpSymlink {
				from = []string{"", "a\x00", "f", "/d/s/", text(400), text(401)}
			}
			b := watched(t)
			for _, x := range from {
				for _, y := range append(pairs(), text(60), text(61)) {
					if b.do(two(op, x, y)).E == api.OK {
						b.do(of(api.OpLstat, x))
						b.do(of(api.OpLstat, y))
						b.tellAll()
						b = watched(t)
					}
				}
			}
		})
	}
}

// TestTwice: P13.2: a name of each kind is taken away, and made anew as each kind; then again.
func TestTwice(t *testing.T) {
	t.Parallel()
	// What there is of a directory is taken away first.
	below := map[string][]string{"d": {"d/s/k", "d/s/t", "d/s/u", "d/s", "d/e", "d/f", "d/g", "d/l"}, "m": {"m/a", "m/b", "m/n", "m/p/q", "m/p", "m/x"}, "o": {"o/i", "o/x"}, "t": {"t/i", "t/j", "t/n"}}
	for _, a := range []string{"d", "d/e", "d/f", "d/l", "f", "g", "m", "m/a", "m/b", "m/c", "m/v", "m/x", "o", "o/x", "o/y", "q", "qd", "r", "t", "t/i", "v", "w", "y", "yy", "z"} {
		for kinds := range 9 {
			b := watched(t)
			for _, kind := range []int{kinds / 3, kinds % 3} {
				for _, name := range append(below[a], a) {
					if b.do(of(api.OpUnlink, name)).E == api.EISDIR {
						b.all(of(api.OpRmdir, name))
					}
				}
				b.fails(of(api.OpLstat, a), api.ENOENT)
				switch kind {
				case 0:
					b.all(of(api.OpMkdir, a), of(api.OpMkdir, a+"/s"), of(api.OpRmdir, a+"/s"), of(api.OpOpendir, a))
				case 1:
					b.all(openAs(rwx, a))
				default:
					b.all(two(api.OpSymlink, "f", a))
				}
			}
			b.tellAll()
		}
	}
}
