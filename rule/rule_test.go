package rule

import (
	"math"
	"slices"
	"strings"
	"testing"

	"veneer/api"
	"veneer/desc"
)

// TestFlags: which flags a file can be opened with.
func TestFlags(t *testing.T) {
	for flag := -70; flag < 140; flag++ {
		read, write, cut, app := flag&1 > 0, flag&2 > 0, flag&16 > 0, flag&32 > 0
		want := api.OK
		if !read && !write || cut && !write || app && !write {
			want = api.EINVAL
		}
		if got := Flags(flag); got != want {
			t.Errorf("Flags(%d): %d; want %d", flag, got, want)
		}
	}
}

// TestTarget: what a link may lead to.
func TestTarget(t *testing.T) {
	for text, want := range map[string]api.Errno{
		"": api.ENOENT, "/": api.OK, "a": api.OK, "..": api.OK, "a\x00": api.EINVAL, "\x00": api.EINVAL,
		strings.Repeat("a", 400): api.OK, strings.Repeat("a", 401): api.ENAMETOOLONG, strings.Repeat("\x00", 400): api.EINVAL, strings.Repeat("\x00", 401): api.ENAMETOOLONG,
	} {
		if got := Target(text); got != want {
			t.Errorf("Target(%q): %d; want %d", text, got, want)
		}
	}
}

// table has descriptors of files, to read, to write and both, and of a directory.
func table() *desc.Table {
	t := desc.New()
	for _, d := range []api.Desc{
		{Ino: 5, Flag: api.FlagRead, Off: 7}, {Ino: 6, Flag: api.FlagWrite, Off: 8}, {Ino: 7, Flag: api.FlagRead | api.FlagWrite, Off: 9}, {Ino: 8, IsDir: true, Names: []string{"a", "b"}},
	} {
		t.Open(d)
	}
	return t
}

// TestFileDir: a descriptor of the other kind, without the flag, or that isn't open, is none.
func TestFileDir(t *testing.T) {
	x := table()
	for fd := -2; fd < 40; fd++ {
		for flag := range 4 {
			want := map[int]int{0: 1, 1: 2, 2: 3}[fd] // its flags
			d, e := File(x, fd, flag)
			if good := want != 0 && want&flag == flag; (e == api.OK) != good || !good && e != api.EBADF || d.Ino != 0 != good {
				t.Errorf("File(%d, %d): %v, %d", fd, flag, d, e)
			}
		}
		d, e := Dir(x, fd)
		if good := fd == 3; (e == api.OK) != good || !good && e != api.EBADF || d.IsDir != good || d.Ino != 0 != good {
			t.Errorf("Dir(%d): %v, %d", fd, d, e)
		}
	}
}

// TestSeek: from each origin, to each end.
func TestSeek(t *testing.T) {
	for _, c := range []struct {
		fd, flag int
		off      int64
		want     api.Result
	}{
		{0, 0, 0, api.Result{}}, {0, 0, 5, api.Result{N: 5}}, {0, 0, -1, api.Result{E: api.EINVAL}}, {0, 0, api.MaxOff, api.Result{N: api.MaxOff}}, {0, 0, api.MaxOff + 1, api.Result{E: api.EINVAL}},
		{1, 1, 0, api.Result{N: 8}}, {1, 1, -8, api.Result{}}, {1, 1, -9, api.Result{E: api.EINVAL}}, {1, 1, api.MaxOff - 8, api.Result{N: api.MaxOff}}, {1, 1, api.MaxOff - 7, api.Result{E: api.EINVAL}},
		{2, 2, 0, api.Result{N: 100}}, {2, 2, -100, api.Result{}}, {2, 2, -101, api.Result{E: api.EINVAL}}, {2, 2, api.MaxOff - 100, api.Result{N: api.MaxOff}}, {2, 2, api.MaxOff - 99, api.Result{E: api.EINVAL}},
		{2, 3, 0, api.Result{E: api.EINVAL}}, {2, -1, 0, api.Result{E: api.EINVAL}}, {2, 1 << 32, 0, api.Result{E: api.EINVAL}},
		{2, 1, math.MaxInt64, api.Result{E: api.EINVAL}}, {2, 2, math.MaxInt64, api.Result{E: api.EINVAL}}, {2, 1, math.MinInt64, api.Result{E: api.EINVAL}}, {2, 2, math.MinInt64, api.Result{E: api.EINVAL}},
		{3, 0, 1, api.Result{E: api.EBADF}}, {4, 0, 1, api.Result{E: api.EBADF}}, {-1, 7, -1, api.Result{E: api.EBADF}},
	} {
		x := table()
		was, _ := x.Get(c.fd)
		if got := Seek(x, api.Call{Op: api.OpSeek, Fd: c.fd, Flag: c.flag, Off: c.off}, 100); got != c.want {
			t.Errorf("Seek %d, %d, %d: %v; want %v", c.fd, c.flag, c.off, got, c.want)
		}
		want := was.Off
		if c.want.E == api.OK {
			want = c.want.N
		}
		if d, _ := x.Get(c.fd); d.Off != want || d.Ino != was.Ino || d.Flag != was.Flag {
			t.Errorf("Seek %d, %d, %d: then it is %v", c.fd, c.flag, c.off, d)
		}
	}
}

// TestReaddir: a directory's names, one after the other, and then none.
func TestReaddir(t *testing.T) {
	x := table()
	for _, want := range []api.Result{{N: 1, S: "a"}, {N: 1, S: "b"}, {}, {}} {
		if got := Readdir(x, 3); got != want {
			t.Errorf("Readdir: %v; want %v", got, want)
		}
	}
	if d, _ := x.Get(3); d.At != 2 || !slices.Equal(d.Names, []string{"a", "b"}) {
		t.Errorf("then it is %v", d)
	}
	for _, fd := range []int{-1, 0, 1, 2, 4, 99} {
		if got := Readdir(x, fd); got != (api.Result{E: api.EBADF}) {
			t.Errorf("Readdir %d: %v", fd, got)
		}
	}
}

// TestRead: at the descriptor, or at a place; what the tree has, or its error.
func TestRead(t *testing.T) {
	const text = "0123456789abcdef"
	for _, c := range []struct {
		op, fd int
		n, off int64
		want   api.Result
		moved  int64
	}{
		{api.OpRead, 0, 4, 99, api.Result{N: 4, S: "789a"}, 4}, {api.OpRead, 2, 99, -1, api.Result{N: 7, S: "9abcdef"}, 7}, {api.OpRead, 0, 0, 0, api.Result{}, 0}, {api.OpRead, 0, math.MaxInt64, 0, api.Result{N: 9, S: "789abcdef"}, 9},
		{api.OpPread, 0, 4, 1, api.Result{N: 4, S: "1234"}, 0}, {api.OpPread, 2, 99, 15, api.Result{N: 1, S: "f"}, 0}, {api.OpPread, 0, 4, 16, api.Result{}, 0},
		{api.OpRead, 0, -1, 0, api.Result{E: api.EINVAL}, 0}, {api.OpPread, 0, -1, 0, api.Result{E: api.EINVAL}, 0}, {api.OpPread, 0, 1, -1, api.Result{E: api.EINVAL}, 0},
		{api.OpPread, 0, 13, 13, api.Result{E: api.EISDIR}, 0}, {api.OpRead, 0, 13, 0, api.Result{E: api.EISDIR}, 0},
		{api.OpRead, 1, -1, 0, api.Result{E: api.EBADF}, 0}, {api.OpPread, 3, 1, -1, api.Result{E: api.EBADF}, 0}, {api.OpRead, 4, 1, 0, api.Result{E: api.EBADF}, 0},
	} {
		x := table()
		was, _ := x.Get(c.fd)
		got := Read(x, api.Call{Op: c.op, Fd: c.fd, N: c.n, Off: c.off}, func(d api.Desc, off int64, n int) ([]byte, api.Errno) {
			switch {
			case d.Ino != was.Ino || n > api.MaxFile:
				t.Errorf("%d bytes are read from %v", n, d)
			case n == 13:
				return nil, api.EISDIR
			case off >= int64(len(text)):
				return nil, api.OK
			}
			rest := text[off:]
			return []byte(rest[:min(n, len(rest))]), api.OK
		})
		d, _ := x.Get(c.fd)
		if got != c.want || d.Off != was.Off+c.moved {
			t.Errorf("Op %d, %d, %d, %d: %v, moved by %d; want %v, %d", c.op, c.fd, c.n, c.off, got, d.Off-was.Off, c.want, c.moved)
		}
	}
}

// TestWrite: at the descriptor, at the end, or at a place; as many bytes as the tree takes, or its error.
func TestWrite(t *testing.T) {
	for _, c := range []struct {
		op, fd int
		off    int64
		text   string
		want   api.Result
		at, to int64 // where it is written, and where the descriptor stands then
	}{
		{api.OpWrite, 1, 99, "abc", api.Result{N: 3}, 8, 11}, {api.OpWrite, 2, -1, "", api.Result{}, 9, 9}, {api.OpWrite, 4, 0, "abc", api.Result{N: 3}, 50, 53}, {api.OpWrite, 4, 0, "", api.Result{}, 50, 50}, {api.OpWrite, 1, 0, "abcdef", api.Result{N: 4}, 8, 12},
		{api.OpPwrite, 1, 99, "abc", api.Result{N: 3}, 99, 8}, {api.OpPwrite, 4, 7, "abcdef", api.Result{N: 4}, 7, 3},
		{api.OpWrite, 1, 0, "!", api.Result{E: api.ENOSPC}, 8, 8}, {api.OpWrite, 4, 0, "!", api.Result{E: api.ENOSPC}, 50, 3}, {api.OpPwrite, 1, 5, "!", api.Result{E: api.ENOSPC}, 5, 8},
		{api.OpWrite, 0, 0, "abc", api.Result{E: api.EBADF}, -1, 7}, {api.OpPwrite, 3, 0, "abc", api.Result{E: api.EBADF}, -1, 0}, {api.OpWrite, 9, 0, "abc", api.Result{E: api.EBADF}, -1, 0},
	} {
		x := table()
		x.Open(api.Desc{Ino: 9, Flag: api.FlagWrite | api.FlagAppend, Off: 3})
		at := int64(-1)
		got := Write(x, api.Call{Op: c.op, Fd: c.fd, Off: c.off, A: c.text}, 50, func(d api.Desc, off int64, data []byte) (int, api.Errno) {
			at = off
			if string(data) == "!" {
				return 0, api.ENOSPC
			}
			return min(len(data), 4), api.OK
		})
		d, _ := x.Get(c.fd)
		if got != c.want || at != c.at || d.Off != c.to {
			t.Errorf("Op %d, %d, %q: %v at %d, then it stands at %d; want %v at %d, %d", c.op, c.fd, c.text, got, at, d.Off, c.want, c.at, c.to)
		}
	}
}

// TestRewind: the names that the directory has now, from the first one on; beside an error, those that there were.
func TestRewind(t *testing.T) {
	x := table()
	Readdir(x, 3)
	got := Rewind(x, 3, func(d api.Desc) ([]string, api.Errno) { return nil, api.ENOENT })
	if d, _ := x.Get(3); got != (api.Result{E: api.ENOENT}) || d.At != 1 || !slices.Equal(d.Names, []string{"a", "b"}) {
		t.Errorf("Rewind with an error: %v; then it is %v", got, d)
	}
	got = Rewind(x, 3, func(d api.Desc) ([]string, api.Errno) {
		if d.Ino != 8 {
			t.Errorf("the names of %v", d)
		}
		return []string{"c"}, api.OK
	})
	if d, _ := x.Get(3); got != (api.Result{}) || d.At != 0 || !slices.Equal(d.Names, []string{"c"}) {
		t.Errorf("Rewind: %v; then it is %v", got, d)
	}
	for _, fd := range []int{-1, 0, 1, 2, 4} {
		if got := Rewind(x, fd, nil); got != (api.Result{E: api.EBADF}) {
			t.Errorf("Rewind %d: %v", fd, got)
		}
	}
}
