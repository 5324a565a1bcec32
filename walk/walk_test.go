package walk

import (
	"slices"
	"strconv"
	"strings"
	"testing"

	"veneer/api"
	"veneer/branch"
	"veneer/path"
)

// The inodes of a sample that are no links.
const (
	dirA  = 2 // the directory /a
	fileB = 3 // the file /a/b
	dirD  = 4 // the directory /a/d
	fileF = 5 // the file /a/d/f
	empty = 6 // the directory /e
	white = 7 // the whiteout /w
)

// thing is what is made in a branch.
type thing struct {
	dir    int
	name   string
	kind   int
	target string
}

// things are those of a sample, by their inodes from 2 on.
func things() []thing {
	return []thing{
		{1, "a", api.Dir, ""},
		{dirA, "b", api.File, ""},
		{dirA, "d", api.Dir, ""},
		{dirD, "f", api.File, ""},
		{1, "e", api.Dir, ""},
		{1, "w", api.White, ""},
		{1, "rel", api.Link, "a"},
		{1, "abs", api.Link, "/a/d"},
		{dirD, "abs", api.Link, "/e"},
		{dirD, "rel", api.Link, "../b"},
		{1, "slash", api.Link, "a/d/"},
		{1, "fslash", api.Link, "a/b/"},
		{1, "file", api.Link, "a/b"},
		{1, "top", api.Link, "/"},
		{1, "dot", api.Link, "."},
		{1, "up", api.Link, ".."},
		{dirD, "top", api.Link, "///"},
		{dirD, "dot", api.Link, "./."},
		{dirD, "up", api.Link, ".."},
		{1, "gone", api.Link, "a/none"},
		{1, "goneslash", api.Link, "a/none/"},
		{1, "lost", api.Link, "none/none"},
		{1, "chain", api.Link, "rel"},
		{1, "chain2", api.Link, "chain/d/rel"},
		{1, "self", api.Link, "self"},
		{dirA, "self", api.Link, "self/self"},
		{1, "ping", api.Link, "/pong"},
		{1, "pong", api.Link, "ping"},
		{1, "zero", api.Link, "a\x00"},
		{1, "long", api.Link, strings.Repeat("n", 61)},
		{1, "deep", api.Link, strings.Repeat("a/", 41)},
		{1, "odd", api.Link, "//a/.//./d//."},
		{1, "white", api.Link, "w"},
		{1, "through", api.Link, "a/b/../b"},
		{1, "grow", api.Link, strings.Repeat("grow/", 39) + "grow"},
	}
}

// planted makes a branch with things in it.
func planted(t *testing.T, some []thing) *branch.Branch {
	t.Helper()
	b := branch.New(9)
	for i, x := range some {
		if ino, e := b.Make(x.dir, x.name, x.kind, x.target); ino != i+2 || e != api.OK {
			t.Fatalf("%q: %d, %d", x.name, ino, e)
		}
	}
	return b
}

// numbered is a sample's inode of a name in a directory.
func numbered(t *testing.T, dir int, name string) int {
	t.Helper()
	for i, x := range things() {
		if x.dir == dir && x.name == name {
			return i + 2
		}
	}
	t.Fatalf("no %q in %d", name, dir)
	return 0
}

// parsed is a text's path.
func parsed(t *testing.T, text string) api.Path {
	t.Helper()
	p, e := path.Parse(text)
	if e != api.OK {
		t.Fatalf("%q is no path: %d", text, e)
	}
	return p
}

// leads holds a walk to what it should come to.
func leads(t *testing.T, tree Tree, p api.Path, follow bool, want Found, wantE api.Errno) {
	t.Helper()
	if got, e := Walk(tree, p, follow); got != want || e != wantE {
		t.Errorf("%.200q, follow %t: %v, %d, want %v, %d", path.Text(p), follow, got, e, want, wantE)
	}
}

// TestExamples: the chapter's examples.
func TestExamples(t *testing.T) {
	b := planted(t, []thing{{1, "a", api.Dir, ""}, {2, "b", api.File, ""}, {1, "l", api.Link, "a"}})
	leads(t, b, parsed(t, "/l/b"), false, Found{2, "b", 3}, api.OK)
	leads(t, b, parsed(t, "/l"), false, Found{1, "l", 4}, api.OK)
	leads(t, b, parsed(t, "/l"), true, Found{1, "a", 2}, api.OK)
	leads(t, b, parsed(t, "/l/"), false, Found{1, "a", 2}, api.OK)
	leads(t, b, parsed(t, "/a/c"), false, Found{2, "c", 0}, api.ENOENT)
	leads(t, b, parsed(t, "/x/c"), false, Found{}, api.ENOENT)
	leads(t, b, parsed(t, "/a/b/"), false, Found{}, api.ENOTDIR)
	leads(t, b, parsed(t, "/l/../l"), false, Found{1, "l", 4}, api.OK)
}

// TestWithoutLinks: P6.1, rules 1, 2, 3, 5 and 6, and where no names remain: follow makes no difference.
func TestWithoutLinks(t *testing.T) {
	b := planted(t, things())
	long := strings.Repeat("n", 61)
	for _, c := range []struct {
		names string // with spaces between
		dir   bool
		want  Found
		e     api.Errno
	}{
		{"", false, Found{1, "", 1}, 0},
		{"", true, Found{1, "", 1}, 0},
		{"a", false, Found{1, "a", dirA}, 0},
		{"a", true, Found{1, "a", dirA}, 0},
		{"e", true, Found{1, "e", empty}, 0},
		{"a b", false, Found{dirA, "b", fileB}, 0},
		{"a d f", false, Found{dirD, "f", fileF}, 0},
		{"a d", true, Found{dirA, "d", dirD}, 0},
		{"w", false, Found{1, "w", white}, 0},
		// What is found is no directory, at the end and in the middle.
		{"a b", true, Found{}, api.ENOTDIR},
		{"w", true, Found{}, api.ENOTDIR},
		{"a b c", false, Found{}, api.ENOTDIR},
		{"a b c", true, Found{}, api.ENOTDIR},
		{"a b .", false, Found{}, api.ENOTDIR},
		{"a b ..", false, Found{}, api.ENOTDIR},
		{"a b .. b", false, Found{}, api.ENOTDIR},
		{"a b . c", false, Found{}, api.ENOTDIR},
		{"a d f f f", false, Found{}, api.ENOTDIR},
		{"w x", false, Found{}, api.ENOTDIR},
		{"w ..", true, Found{}, api.ENOTDIR},
		// What is missing, as the last one and before it.
		{"x", false, Found{1, "x", 0}, api.ENOENT},
		{"x", true, Found{1, "x", 0}, api.ENOENT},
		{"a c", false, Found{dirA, "c", 0}, api.ENOENT},
		{"a c", true, Found{dirA, "c", 0}, api.ENOENT},
		{"a d .. .. e x", true, Found{empty, "x", 0}, api.ENOENT},
		{"x c", false, Found{}, api.ENOENT},
		{"x c", true, Found{}, api.ENOENT},
		{"x .", true, Found{}, api.ENOENT},
		{"x ..", true, Found{}, api.ENOENT},
		{"a x .. b", false, Found{}, api.ENOENT},
		{"a x y z", false, Found{}, api.ENOENT},
		{". x", false, Found{1, "x", 0}, api.ENOENT},
		{".. x", false, Found{1, "x", 0}, api.ENOENT},
		// `.` and `..`, at the root and below it.
		{".", false, Found{1, "", 1}, 0},
		{".", true, Found{1, "", 1}, 0},
		{"..", false, Found{1, "", 1}, 0},
		{"..", true, Found{1, "", 1}, 0},
		{".. .. . ..", false, Found{1, "", 1}, 0},
		{". a", false, Found{1, "a", dirA}, 0},
		{".. a", false, Found{1, "a", dirA}, 0},
		{".. . a b", false, Found{dirA, "b", fileB}, 0},
		{"a .", false, Found{dirA, "", dirA}, 0},
		{"a .", true, Found{dirA, "", dirA}, 0},
		{"a . . b", false, Found{dirA, "b", fileB}, 0},
		{"a ..", false, Found{1, "", 1}, 0},
		{"a d ..", false, Found{dirA, "", dirA}, 0},
		{"a d ..", true, Found{dirA, "", dirA}, 0},
		{"a d .. b", false, Found{dirA, "b", fileB}, 0},
		{"a .. a d .. d .", true, Found{dirD, "", dirD}, 0},
		{"a d .. .. .. e", false, Found{1, "e", empty}, 0},
		// These are names like others.
		{"...", false, Found{1, "...", 0}, api.ENOENT},
		{"a/b", false, Found{1, "a/b", 0}, api.ENOENT},
		{"/", true, Found{1, "/", 0}, api.ENOENT},
		{"\x00", false, Found{1, "\x00", 0}, api.ENOENT},
		{long, false, Found{1, long, 0}, api.ENOENT},
		{long + " a", false, Found{}, api.ENOENT},
	} {
		p := api.Path{Names: strings.Fields(c.names), Dir: c.dir}
		leads(t, b, p, false, c.want, c.e)
		leads(t, b, p, true, c.want, c.e)
	}
	leads(t, b, api.Path{Names: []string{""}}, false, Found{1, "", 0}, api.ENOENT)
	leads(t, b, api.Path{Names: []string{"", "a"}}, false, Found{}, api.ENOENT)
}

// TestLastLink: P6.1, rule 4, links at the end: what is found with follow, or with Dir, or with neither.
func TestLastLink(t *testing.T) {
	b := planted(t, things())
	for _, c := range []struct {
		dir     int
		name    string
		want    Found // with follow
		e       api.Errno
		wantDir Found // with Dir
		eDir    api.Errno
	}{
		{1, "rel", Found{1, "a", dirA}, 0, Found{1, "a", dirA}, 0},
		{1, "abs", Found{dirA, "d", dirD}, 0, Found{dirA, "d", dirD}, 0},
		{dirD, "abs", Found{1, "e", empty}, 0, Found{1, "e", empty}, 0},
		{dirD, "rel", Found{dirA, "b", fileB}, 0, Found{}, api.ENOTDIR},
		{1, "slash", Found{dirA, "d", dirD}, 0, Found{dirA, "d", dirD}, 0},
		{1, "fslash", Found{}, api.ENOTDIR, Found{}, api.ENOTDIR},
		{1, "file", Found{dirA, "b", fileB}, 0, Found{}, api.ENOTDIR},
		{1, "top", Found{1, "", 1}, 0, Found{1, "", 1}, 0},
		{1, "dot", Found{1, "", 1}, 0, Found{1, "", 1}, 0},
		{1, "up", Found{1, "", 1}, 0, Found{1, "", 1}, 0},
		{dirD, "top", Found{1, "", 1}, 0, Found{1, "", 1}, 0},
		{dirD, "dot", Found{dirD, "", dirD}, 0, Found{dirD, "", dirD}, 0},
		{dirD, "up", Found{dirA, "", dirA}, 0, Found{dirA, "", dirA}, 0},
		{1, "gone", Found{dirA, "none", 0}, api.ENOENT, Found{dirA, "none", 0}, api.ENOENT},
		{1, "goneslash", Found{dirA, "none", 0}, api.ENOENT, Found{dirA, "none", 0}, api.ENOENT},
		{1, "lost", Found{}, api.ENOENT, Found{}, api.ENOENT},
		{1, "chain", Found{1, "a", dirA}, 0, Found{1, "a", dirA}, 0},
		{1, "chain2", Found{dirA, "b", fileB}, 0, Found{}, api.ENOTDIR},
		{1, "self", Found{}, api.ELOOP, Found{}, api.ELOOP},
		{dirA, "self", Found{}, api.ELOOP, Found{}, api.ELOOP},
		{1, "ping", Found{}, api.ELOOP, Found{}, api.ELOOP},
		{1, "pong", Found{}, api.ELOOP, Found{}, api.ELOOP},
		{1, "zero", Found{}, api.EINVAL, Found{}, api.EINVAL},
		{1, "long", Found{}, api.ENAMETOOLONG, Found{}, api.ENAMETOOLONG},
		{1, "deep", Found{}, api.ENAMETOOLONG, Found{}, api.ENAMETOOLONG},
		{1, "odd", Found{dirA, "d", dirD}, 0, Found{dirA, "d", dirD}, 0},
		{1, "white", Found{1, "w", white}, 0, Found{}, api.ENOTDIR},
		{1, "through", Found{}, api.ENOTDIR, Found{}, api.ENOTDIR},
		{1, "grow", Found{}, api.ENAMETOOLONG, Found{}, api.ENAMETOOLONG},
	} {
		names := []string{c.name}
		switch c.dir {
		case dirA:
			names = []string{"a", c.name}
		case dirD:
			names = []string{"a", "d", c.name}
		}
		leads(t, b, api.Path{Names: names}, false, Found{c.dir, c.name, numbered(t, c.dir, c.name)}, api.OK)
		leads(t, b, api.Path{Names: names}, true, c.want, c.e)
		leads(t, b, api.Path{Names: names, Dir: true}, false, c.wantDir, c.eDir)
		leads(t, b, api.Path{Names: names, Dir: true}, true, c.wantDir, c.eDir)
	}
}

// TestInnerLink: P6.1, rule 4, links before the last name are followed whatever follow and Dir are.
func TestInnerLink(t *testing.T) {
	b := planted(t, things())
	for _, c := range []struct {
		names string
		want  Found
		e     api.Errno
	}{
		{"rel d", Found{dirA, "d", dirD}, 0},
		{"rel .", Found{dirA, "", dirA}, 0},
		{"rel ..", Found{1, "", 1}, 0},
		{"abs ..", Found{dirA, "", dirA}, 0},
		{"abs .. d", Found{dirA, "d", dirD}, 0},
		{"a d abs .. a", Found{1, "a", dirA}, 0},
		{"a d abs x", Found{empty, "x", 0}, api.ENOENT},
		{"a d up d", Found{dirA, "d", dirD}, 0},
		{"a d up up a", Found{}, api.ENOENT},
		{"a d top e", Found{1, "e", empty}, 0},
		{"a d dot dot .", Found{dirD, "", dirD}, 0},
		{"top top dot up a", Found{1, "a", dirA}, 0},
		{"slash .. d", Found{dirA, "d", dirD}, 0},
		{"slash x", Found{dirD, "x", 0}, api.ENOENT},
		{"odd ..", Found{dirA, "", dirA}, 0},
		{"chain d", Found{dirA, "d", dirD}, 0},
		{"chain d up d", Found{dirA, "d", dirD}, 0},
		{". .. chain .. chain d", Found{dirA, "d", dirD}, 0},
		{"file x", Found{}, api.ENOTDIR},
		{"file .", Found{}, api.ENOTDIR},
		{"file ..", Found{}, api.ENOTDIR},
		{"fslash x", Found{}, api.ENOTDIR},
		{"chain2 x", Found{}, api.ENOTDIR},
		{"white x", Found{}, api.ENOTDIR},
		{"through x", Found{}, api.ENOTDIR},
		{"rel b d", Found{}, api.ENOTDIR},
		{"gone x", Found{}, api.ENOENT},
		{"gone ..", Found{}, api.ENOENT},
		{"lost x", Found{}, api.ENOENT},
		{"self x", Found{}, api.ELOOP},
		{"self ..", Found{}, api.ELOOP},
		{"ping .", Found{}, api.ELOOP},
		{"zero x", Found{}, api.EINVAL},
		{"long x", Found{}, api.ENAMETOOLONG},
		{"deep x", Found{}, api.ENAMETOOLONG},
		{"grow x", Found{}, api.ENAMETOOLONG},
	} {
		for _, dir := range []bool{false, true} {
			p := api.Path{Names: strings.Fields(c.names), Dir: dir}
			leads(t, b, p, false, c.want, c.e)
			leads(t, b, p, true, c.want, c.e)
		}
	}
	// Only a target at the end says that a directory is meant: these end in files.
	for _, names := range []string{"slash f", "top file", "a d dot f", "a d up b", "slash rel"} {
		p := api.Path{Names: strings.Fields(names)}
		if got, e := Walk(b, p, true); e != api.OK || b.Kind(got.Ino) != api.File {
			t.Errorf("%q: %v, %d", names, got, e)
		}
		p.Dir = true
		leads(t, b, p, false, Found{}, api.ENOTDIR)
		leads(t, b, p, true, Found{}, api.ENOTDIR)
	}
	// The last name after inner links is a link that isn't followed without follow.
	leads(t, b, parsed(t, "chain/d/rel"), false, Found{dirD, "rel", numbered(t, dirD, "rel")}, api.OK)
	leads(t, b, parsed(t, "top/chain"), false, Found{1, "chain", numbered(t, 1, "chain")}, api.OK)
}

// TestManyLinks: P6.1, rule 4, MaxWalk links and one more.
func TestManyLinks(t *testing.T) {
	b := planted(t, []thing{{1, "a", api.Dir, ""}, {2, "top", api.Link, "/"}, {1, "0", api.File, ""}})
	// The link n leads to n - 1, so n links lead to 0.
	for n := 1; n <= 41; n++ {
		if _, e := b.Make(1, strconv.Itoa(n), api.Link, strconv.Itoa(n-1)); e != api.OK {
			t.Fatal(e)
		}
	}
	leads(t, b, parsed(t, "39"), true, Found{1, "0", 4}, api.OK)
	leads(t, b, parsed(t, "40"), true, Found{1, "0", 4}, api.OK)
	leads(t, b, parsed(t, "41"), true, Found{}, api.ELOOP)
	leads(t, b, parsed(t, "40/"), false, Found{}, api.ENOTDIR)
	leads(t, b, parsed(t, "41/"), false, Found{}, api.ELOOP)
	leads(t, b, parsed(t, "40/x"), false, Found{}, api.ENOTDIR)
	leads(t, b, parsed(t, "41/x"), false, Found{}, api.ELOOP)
	leads(t, b, parsed(t, "41"), false, Found{1, "41", 4 + 41}, api.OK)
	// The same link counts each time, and those before count with those at the end.
	tops := func(n int, more ...string) api.Path {
		return api.Path{Names: append(slices.Repeat([]string{"a", "top"}, n), more...)}
	}
	for _, follow := range []bool{false, true} {
		leads(t, b, tops(40, "a"), follow, Found{1, "a", 2}, api.OK)
		leads(t, b, tops(40, "a", "x"), follow, Found{2, "x", 0}, api.ENOENT)
		leads(t, b, tops(40, "x", "x"), follow, Found{}, api.ENOENT)
		leads(t, b, tops(41, "a"), follow, Found{}, api.ELOOP)
		leads(t, b, tops(100, "a"), follow, Found{}, api.ELOOP)
	}
	leads(t, b, tops(38, "2"), true, Found{1, "0", 4}, api.OK)
	leads(t, b, tops(39, "2"), true, Found{}, api.ELOOP)
	leads(t, b, tops(40), true, Found{1, "", 1}, api.OK)
	leads(t, b, tops(41), true, Found{}, api.ELOOP)
	// A link that isn't followed doesn't count.
	leads(t, b, tops(41), false, Found{2, "top", 3}, api.OK)
	leads(t, b, tops(40, "1"), false, Found{1, "1", 5}, api.OK)
	leads(t, b, tops(42), false, Found{}, api.ELOOP)
}

// TestManyNames: P6.1, rule 4, a target's names and the remaining ones, MaxPath and one more together.
func TestManyNames(t *testing.T) {
	b := planted(t, []thing{
		{1, "a", api.Dir, ""},
		{1, "none", api.Link, "/"},
		{1, "two", api.Link, "a/.."},
		{1, "all", api.Link, strings.Repeat("a/../", 19) + "a/.."},
		{1, "dots", api.Link, strings.Repeat("./", 199) + "a"},
		{1, "twice", api.Link, "none/none"},
	})
	for name, n := range map[string]int{"none": 0, "two": 2, "all": 40, "dots": 1, "twice": 2} {
		for _, follow := range []bool{false, true} {
			for _, more := range []int{0, 1, 2, 41, 600, 70000} {
				p := api.Path{Names: append([]string{name}, slices.Repeat([]string{"."}, 400-n)...)}
				end := 1
				if name == "dots" {
					end = dirA
				}
				leads(t, b, p, follow, Found{end, "", end}, api.OK)
				p.Names = append(slices.Repeat([]string{"."}, more), p.Names...)
				leads(t, b, p, follow, Found{end, "", end}, api.OK)
				p.Names = append(p.Names, slices.Repeat([]string{"."}, 1+more)...)
				leads(t, b, p, follow, Found{}, api.ENAMETOOLONG)
			}
		}
	}
	// It is counted at each link anew: the names that were gone through count no more.
	p := api.Path{Names: slices.Repeat([]string{"all"}, 40)}
	leads(t, b, p, true, Found{1, "", 1}, api.OK)
	// Without a link that is followed, there may be any number.
	leads(t, b, api.Path{Names: slices.Repeat([]string{"a", ".."}, 300000)}, true, Found{1, "", 1}, api.OK)
	leads(t, b, api.Path{Names: append(slices.Repeat([]string{"."}, 1000), "two")}, false, Found{1, "two", 4}, api.OK)
}
