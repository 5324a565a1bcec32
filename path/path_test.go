package path

import (
	"slices"
	"strings"
	"testing"

	"veneer/api"
)

// same tells whether two paths are the same, an empty list of names and none being one.
func same(p, q api.Path) bool {
	return slices.Equal(p.Names, q.Names) && p.Dir == q.Dir
}

// way makes a path.
func way(dir bool, names ...string) api.Path {
	return api.Path{Names: names, Dir: dir}
}

// times makes n names.
func times(n int, name string) []string {
	return slices.Repeat([]string{name}, n)
}

// strung makes all strings of at most most bytes that are out of alphabet.
func strung(alphabet string, most int) []string {
	all := []string{""}
	for at := 0; len(all[at]) < most; at++ {
		for i := range len(alphabet) {
			all = append(all, all[at]+alphabet[i:i+1])
		}
	}
	return all
}

// TestName: P1.1.
func TestName(t *testing.T) {
	long := strings.Repeat("x", 60)
	for _, c := range []struct {
		s    string
		want api.Errno
	}{
		{"a", api.OK},
		{"a.txt", api.OK},
		{" ", api.OK},
		{".", api.OK},
		{"..", api.OK},
		{"...", api.OK},
		{"\\", api.OK},
		{"\x01", api.OK},
		{"\xff\xfe", api.OK},
		{"\u4e16\u754c", api.OK},
		{long, api.OK},
		{strings.Repeat("\u00e9", 30), api.OK},
		{"", api.ENOENT},
		{long + "x", api.ENAMETOOLONG},
		{strings.Repeat("\u00e9", 31), api.ENAMETOOLONG},
		{strings.Repeat("\x00", 61), api.ENAMETOOLONG},
		{strings.Repeat("/", 61), api.ENAMETOOLONG},
		{strings.Repeat("x", 100000), api.ENAMETOOLONG},
		{"\x00", api.EINVAL},
		{"/", api.EINVAL},
		{"a/", api.EINVAL},
		{"/a", api.EINVAL},
		{"a/b", api.EINVAL},
		{"a\x00", api.EINVAL},
		{"\x00a", api.EINVAL},
		{"\xe2\x80/", api.EINVAL},
		{"\xe2\x80\x00", api.EINVAL},
		{long[1:] + "/", api.EINVAL},
		{long[1:] + "\x00", api.EINVAL},
		{"/" + long[1:], api.EINVAL},
	} {
		if got := Name(c.s); got != c.want {
			t.Errorf("Name(%q): %d, want %d", c.s, got, c.want)
		}
	}
}

// TestNameByte: P1.1, for each byte alone, first, last and within.
func TestNameByte(t *testing.T) {
	for i := range 256 {
		b := string([]byte{byte(i)})
		want := api.OK
		if i == 0 || i == '/' {
			want = api.EINVAL
		}
		for _, s := range []string{b, b + "abcdefghij", "abcdefghij" + b, "ab" + b + "cd"} {
			if got := Name(s); got != want {
				t.Errorf("Name(%q): %d, want %d", s, got, want)
			}
		}
	}
}

// TestParse: P1.2, strings that are paths.
func TestParse(t *testing.T) {
	long := strings.Repeat("n", 60)
	deep := strings.Repeat("a/", 39) + "a"
	for _, c := range []struct {
		s    string
		want api.Path
	}{
		{"a", way(false, "a")},
		{"/a", way(false, "a")},
		{"/a//./b", way(false, "a", "b")},
		{"a/b/", way(true, "a", "b")},
		{"a/b//", way(true, "a", "b")},
		{"/", way(true)},
		{"///", way(true)},
		{".", way(true)},
		{"./", way(true)},
		{"/.", way(true)},
		{"/././.", way(true)},
		{"..", way(true, "..")},
		{"/..", way(true, "..")},
		{"../", way(true, "..")},
		{"../..", way(true, "..", "..")},
		{"../a", way(false, "..", "a")},
		{"a/..", way(true, "a", "..")},
		{"a/../b", way(false, "a", "..", "b")},
		{"a/.", way(true, "a")},
		{"./a", way(false, "a")},
		{"./a/./", way(true, "a")},
		{"...", way(false, "...")},
		{".a/a./..a/a..", way(false, ".a", "a.", "..a", "a..")},
		{" / ", way(false, " ", " ")},
		{"\xff/\x01", way(false, "\xff", "\x01")},
		{long, way(false, long)},
		{"/" + long + "/" + long + "/", way(true, long, long)},
		{deep, way(false, times(40, "a")...)},
		{"/" + deep + "/.", way(true, times(40, "a")...)},
		{"./" + strings.Repeat("../", 40), way(true, times(40, "..")...)},
		{strings.Repeat("./", 200), way(true)},
		{strings.Repeat("/", 400), way(true)},
		{strings.Repeat("./", 199) + "/a", way(false, "a")},
		{strings.Repeat("/", 340) + long, way(false, long)},
		{strings.Repeat("a/./", 40) + strings.Repeat("/", 240), way(true, times(40, "a")...)},
	} {
		if got, e := Parse(c.s); e != api.OK || !same(got, c.want) {
			t.Errorf("Parse(%q): %v, %d, want %v", c.s, got, e, c.want)
		}
	}
}

// TestParseErrors: P1.2, strings that are none; and nothing beside the error (R2).
func TestParseErrors(t *testing.T) {
	long := strings.Repeat("n", 61)
	for _, c := range []struct {
		s    string
		want api.Errno
	}{
		{"", api.ENOENT},
		{strings.Repeat("/", 401), api.ENAMETOOLONG},
		{strings.Repeat("./", 200) + ".", api.ENAMETOOLONG},
		{strings.Repeat("\x00", 401), api.ENAMETOOLONG},
		{strings.Repeat("/", 400) + "\x00", api.ENAMETOOLONG},
		{strings.Repeat("a", 100000), api.ENAMETOOLONG},
		{"\x00", api.EINVAL},
		{"a\x00", api.EINVAL},
		{"a/\x00/b", api.EINVAL},
		{"/\x00", api.EINVAL},
		{long + "\x00", api.EINVAL},
		{long + "/\x00", api.EINVAL},
		{strings.Repeat("a/", 41) + "\x00", api.EINVAL},
		{strings.Repeat("/", 399) + "\x00", api.EINVAL},
		{long, api.ENAMETOOLONG},
		{"/" + long, api.ENAMETOOLONG},
		{"a/" + long, api.ENAMETOOLONG},
		{long + "/a", api.ENAMETOOLONG},
		{long + "/..", api.ENAMETOOLONG},
		{strings.Repeat(".", 61), api.ENAMETOOLONG},
		{strings.Repeat("a/", 41), api.ENAMETOOLONG},
		{strings.Repeat("a/", 40) + "a", api.ENAMETOOLONG},
		{strings.Repeat("../", 41), api.ENAMETOOLONG},
		{strings.Repeat("a/", 40) + "..", api.ENAMETOOLONG},
		{strings.Repeat("a/../", 20) + "./a", api.ENAMETOOLONG},
	} {
		if got, e := Parse(c.s); e != c.want || !same(got, api.Path{}) {
			t.Errorf("Parse(%q): %v, %d, want %d", c.s, got, e, c.want)
		}
	}
}

// TestParseLength: P1.2, at each length about the limits.
func TestParseLength(t *testing.T) {
	for n := range 70 {
		want := api.OK
		switch {
		case n == 0:
			want = api.ENOENT
		case n > 60:
			want = api.ENAMETOOLONG
		}
		if _, e := Parse(strings.Repeat("x", n)); e != want {
			t.Errorf("a component of %d bytes: %d, want %d", n, e, want)
		}
	}
	for n := 1; n < 60; n++ {
		want := api.OK
		if n > 40 {
			want = api.ENAMETOOLONG
		}
		if _, e := Parse(strings.Repeat("/x", n)); e != want {
			t.Errorf("%d components: %d, want %d", n, e, want)
		}
		if _, e := Parse(strings.Repeat("/./x", n)); e != want {
			t.Errorf("%d components, each behind a dot: %d, want %d", n, e, want)
		}
	}
	for n := 390; n < 410; n++ {
		want := api.OK
		if n > 400 {
			want = api.ENAMETOOLONG
		}
		if _, e := Parse(strings.Repeat("/", n-1) + "x"); e != want {
			t.Errorf("a path of %d bytes: %d, want %d", n, e, want)
		}
	}
}

// parsed tells what P1.2 says of a short string.
func parsed(s string) (api.Path, api.Errno) {
	if s == "" {
		return api.Path{}, api.ENOENT
	}
	if strings.Contains(s, "\x00") {
		return api.Path{}, api.EINVAL
	}
	parts := slices.DeleteFunc(strings.Split(s, "/"), func(part string) bool { return part == "" })
	var p api.Path
	for _, part := range parts {
		if part != "." {
			p.Names = append(p.Names, part)
		}
	}
	last := "/" + strings.Join(parts, "/")
	p.Dir = s[len(s)-1] == '/' || strings.HasSuffix(last, "/.") || strings.HasSuffix(last, "/..") || len(p.Names) == 0
	return p, api.OK
}

// TestParseAll: P1.2, for all short strings of the bytes that matter.
func TestParseAll(t *testing.T) {
	for _, s := range strung("a./\x00", 7) {
		want, f := parsed(s)
		if got, e := Parse(s); e != f || !same(got, want) {
			t.Errorf("Parse(%q): %v, %d, want %v, %d", s, got, e, want, f)
		}
	}
}

// TestText: P1.3.
func TestText(t *testing.T) {
	for _, c := range []struct {
		p    api.Path
		want string
	}{
		{way(false), "/"},
		{way(true), "/"},
		{way(false, "a"), "/a"},
		{way(true, "a"), "/a/"},
		{way(false, "a", "b"), "/a/b"},
		{way(true, "a", "b"), "/a/b/"},
		{way(true, ".."), "/../"},
		{way(false, "."), "/."},
		{way(false, ""), "/"},
		{way(true, ""), "//"},
		{way(false, "", ""), "//"},
		{way(false, "a/b", "\x00"), "/a/b/\x00"},
		{way(false, times(1000, "xy")...), strings.Repeat("/xy", 1000)},
		{way(true, times(1000, "xy")...), strings.Repeat("/xy", 1000) + "/"},
	} {
		if got := Text(c.p); got != c.want {
			t.Errorf("Text(%q, %t): %q, want %q", c.p.Names, c.p.Dir, got, c.want)
		}
	}
}

// TestLast: P1.3.
func TestLast(t *testing.T) {
	for _, c := range []struct {
		p    api.Path
		rest api.Path
		last string
	}{
		{way(false, "a"), way(true), "a"},
		{way(true, "a"), way(true), "a"},
		{way(false, "a", "b"), way(true, "a"), "b"},
		{way(true, "a", "b", "c"), way(true, "a", "b"), "c"},
		{way(false, "..", "b"), way(true, ".."), "b"},
		{way(false, ".", "..."), way(true, "."), "..."},
		{way(false, "a", ""), way(true, "a"), ""},
		{way(false, times(1000, "x")...), way(true, times(999, "x")...), "x"},
	} {
		if rest, last, e := Last(c.p); e != api.OK || last != c.last || !same(rest, c.rest) {
			t.Errorf("Last(%v): %v, %q, %d, want %v, %q", c.p, rest, last, e, c.rest, c.last)
		}
	}
	for _, p := range []api.Path{way(false), way(true), way(false, "."), way(true, ".."), way(false, "a", ".."), way(true, "a", "."), way(false, "..", "a", "..")} {
		if rest, last, e := Last(p); e != api.EBUSY || last != "" || !same(rest, api.Path{}) {
			t.Errorf("Last(%v): %v, %q, %d, want %d", p, rest, last, e, api.EBUSY)
		}
	}
}

// TestJoin: P1.3.
func TestJoin(t *testing.T) {
	for _, c := range []struct{ p, q, want api.Path }{
		{way(false), way(false), way(false)},
		{way(true), way(false), way(true)},
		{way(false), way(true), way(false)},
		{way(true), way(true), way(true)},
		{way(false, "a"), way(true), way(false, "a")},
		{way(true, "a"), way(false), way(true, "a")},
		{way(true), way(false, "b"), way(false, "b")},
		{way(false), way(true, "b"), way(true, "b")},
		{way(true, "a"), way(false, "b"), way(false, "a", "b")},
		{way(false, "a"), way(true, "b"), way(true, "a", "b")},
		{way(true, "a", "b"), way(false, "..", "."), way(false, "a", "b", "..", ".")},
		{way(false, ""), way(false, ""), way(false, "", "")},
		{way(true, times(20, "a")...), way(false, times(20, "b")...), way(false, append(times(20, "a"), times(20, "b")...)...)},
		{way(true, times(40, "a")...), way(false), way(true, times(40, "a")...)},
		{way(true), way(false, times(40, "b")...), way(false, times(40, "b")...)},
	} {
		if got, e := Join(c.p, c.q); e != api.OK || !same(got, c.want) {
			t.Errorf("Join(%v, %v): %v, %d, want %v", c.p, c.q, got, e, c.want)
		}
	}
	for _, n := range []int{0, 1, 20, 40, 41, 1000} {
		p, q := way(true, times(n, "a")...), way(true, times(max(41-n, 0), "b")...)
		if got, e := Join(p, q); e != api.ENAMETOOLONG || !same(got, api.Path{}) {
			t.Errorf("Join of %d and %d names: %v, %d", len(p.Names), len(q.Names), got, e)
		}
	}
}

// TestFresh: what Last and Join return is memory of its own, and their arguments stay as they were (R3).
func TestFresh(t *testing.T) {
	p := api.Path{Names: append(make([]string, 0, 9), "a", "b", "c")}
	q := api.Path{Names: append(make([]string, 0, 9), "d"), Dir: true}
	rest, _, _ := Last(p)
	joined, _ := Join(p, q)
	left, _ := Join(p, api.Path{})
	right, _ := Join(api.Path{}, q)
	for _, r := range []api.Path{rest, joined, left, right} {
		r.Names[0] = "x"
		r.Names = append(r.Names, "y")
		if Text(p) != "/a/b/c" || Text(q) != "/d/" || p.Names[:4][3] != "" || q.Names[:2][1] != "" {
			t.Fatalf("the arguments have become %q and %q", p.Names[:4], q.Names[:2])
		}
	}
	if _, e := Join(p, q); e != api.OK || p.Names[:4][3] != "" {
		t.Errorf("Join wrote behind its argument: %q, %d", p.Names[:4], e)
	}
}

// TestLess: P1.4.
func TestLess(t *testing.T) {
	for _, c := range []struct {
		a, b string
		want bool
	}{
		{"", "", false},
		{"", "a", true},
		{"a", "", false},
		{"a", "a", false},
		{"a", "b", true},
		{"b", "a", false},
		{"a", "ab", true},
		{"ab", "a", false},
		{"ab", "b", true},
		{"b", "ab", false},
		{"a", "a\x00", true},
		{"B", "a", true},
		{"a", "\xff", true},
		{"\xff", "a", false},
		{"\x7f", "\x80", true},
		{"\x80", "\x7f", false},
		{"\uffff", "\U00010000", true},
		{"10", "9", true},
		{"a.b", "a/b", true},
		{strings.Repeat("z", 500), strings.Repeat("z", 501), true},
	} {
		if got := Less(c.a, c.b); got != c.want {
			t.Errorf("Less(%q, %q): %t", c.a, c.b, got)
		}
	}
}

// lower tells what P1.4 says.
func lower(a, b string) bool {
	for i := range min(len(a), len(b)) {
		if a[i] != b[i] {
			return a[i] < b[i]
		}
	}
	return len(a) < len(b)
}

// TestLessAll: P1.4, for all pairs of short strings of low and high bytes.
func TestLessAll(t *testing.T) {
	all := strung("\x00a\x80\xff", 3)
	for _, a := range all {
		for _, b := range all {
			if got := Less(a, b); got != lower(a, b) {
				t.Errorf("Less(%q, %q): %t", a, b, got)
			}
		}
	}
}

// TestTextParsed: P1.5, a path comes back from its text.
func TestTextParsed(t *testing.T) {
	all := append(strung("a./", 8), strings.Repeat("ab/", 40), strings.Repeat("/", 400), strings.Repeat("x", 60))
	for _, s := range all {
		p, e := Parse(s)
		if e != api.OK {
			continue
		}
		if q, e := Parse(Text(p)); e != api.OK || !same(p, q) {
			t.Errorf("%q is %v, and the text of that is %v, %d", s, p, q, e)
		}
	}
	full := strings.Repeat("/"+strings.Repeat("x", 39), 10)
	if p, e := Parse(full); e != api.OK || len(full) != 400 || Text(p) != full {
		t.Errorf("the text of %d bytes is %q, %d", len(full), Text(p), e)
	}
	if p, e := Parse(full[1:] + "y"); e != api.OK || Text(p) != full+"y" {
		t.Errorf("the text of one byte more is %q, %d", Text(p), e)
	}
}

// TestAdditional: P1.5, slashes and dots beside those that are there change no names.
func TestAdditional(t *testing.T) {
	for _, s := range strung("a./", 7)[1:] {
		p, _ := Parse(s)
		for _, more := range []string{
			strings.ReplaceAll(s, "/", "//"),
			strings.ReplaceAll(s, "/", "/./"),
			strings.ReplaceAll(s, "/", "/.//./"),
			"/" + s, "./" + s, "//././" + s,
			s + "/", s + "/.", s + "//./",
		} {
			if q, e := Parse(more); e != api.OK || !slices.Equal(p.Names, q.Names) {
				t.Errorf("%q has the names %q, %q has %q, %d", s, p.Names, more, q.Names, e)
			}
		}
	}
}
