package walk

import (
	"slices"
	"strconv"
	"strings"
	"testing"

	"veneer/api"
	"veneer/branch"
)

// told is what a tree answers to Get or Target.
type told struct {
	ino  int
	text string
	e    api.Errno
}

// own is a tree that is no branch: it answers what it is told to.
type own struct {
	kinds   map[int]int
	names   map[string]told // the same in each directory
	targets map[int]told
	parents map[int]int
	panics  string // the method that panics
}

// call panics if the method is the one that does.
func (o *own) call(method string) {
	if o.panics == method {
		panic(method)
	}
}

func (o *own) Kind(ino int) int {
	o.call("Kind")
	return o.kinds[ino]
}

func (o *own) Get(dir int, name string) (int, api.Errno) {
	o.call("Get")
	x, ok := o.names[name]
	if !ok {
		return 0, api.ENOENT
	}
	return x.ino, x.e
}

func (o *own) Target(ino int) (string, api.Errno) {
	o.call("Target")
	return o.targets[ino].text, o.targets[ino].e
}

func (o *own) Parent(ino int) int {
	o.call("Parent")
	return o.parents[ino]
}

// steady is a tree in which each directory has the same names: `in` is the directory -7, `l` the link 8, `m` the link 9.
func steady() *own {
	return &own{
		kinds:   map[int]int{1: api.Dir, -7: api.Dir, 8: api.Link, 9: api.Link, 10: api.File, 11: 5},
		names:   map[string]told{"in": {ino: -7}, "l": {ino: 8}, "m": {ino: 9}, "f": {ino: 10}, "odd": {ino: 11}, "nil": {}},
		targets: map[int]told{8: {text: "in"}, 9: {text: "in/in"}},
		parents: map[int]int{1: -7, -7: 1, 10: 1, 11: 1},
	}
}

// way makes a path.
func way(dir bool, names ...string) api.Path {
	return api.Path{Names: names, Dir: dir}
}

// TestOwn: P6.1, a tree of other numbers, in which the root has another parent.
func TestOwn(t *testing.T) {
	o := steady()
	leads(t, o, way(false, "in", "in"), false, Found{-7, "in", -7}, api.OK)
	leads(t, o, way(true, ".."), false, Found{-7, "", -7}, api.OK)
	leads(t, o, way(false, "..", ".."), false, Found{1, "", 1}, api.OK)
	leads(t, o, way(false, "..", "f"), false, Found{-7, "f", 10}, api.OK)
	leads(t, o, way(false, "in", "m"), true, Found{-7, "in", -7}, api.OK)
	// A kind that is none of the four, and none at all.
	for name, ino := range map[string]int{"odd": 11, "nil": 0} {
		leads(t, o, way(false, name), true, Found{1, name, ino}, api.OK)
		leads(t, o, way(true, name), true, Found{}, api.ENOTDIR)
		leads(t, o, way(false, name, "in"), true, Found{}, api.ENOTDIR)
		leads(t, o, way(false, name, "."), true, Found{}, api.ENOTDIR)
		leads(t, o, way(false, name, ".."), true, Found{}, api.ENOTDIR)
	}
	// A parent that is no directory: it is found, but nothing in it.
	o.parents[1] = 10
	leads(t, o, way(true, ".."), false, Found{10, "", 10}, api.OK)
	leads(t, o, way(false, "..", "."), false, Found{}, api.ENOTDIR)
	leads(t, o, way(false, "..", "f"), false, Found{}, api.ENOTDIR)
	// `.` and `..` are never looked up.
	o = steady()
	o.names["."] = told{e: api.EPERM}
	o.names[".."] = told{e: api.EPERM}
	leads(t, o, way(false, ".", "in", ".", ".."), false, Found{1, "", 1}, api.OK)
}

// TestOwnRoot: P6.1, a root that is no directory.
func TestOwnRoot(t *testing.T) {
	for _, kind := range []int{0, api.File, api.Link, api.White, 5, -1} {
		o := steady()
		o.kinds[1] = kind
		o.names["e"] = told{e: api.EPERM}
		leads(t, o, way(false), true, Found{1, "", 1}, api.OK)
		leads(t, o, way(true), true, Found{1, "", 1}, api.OK)
		for _, name := range []string{"in", "l", "e", "x", ".", ".."} {
			leads(t, o, way(false, name), true, Found{}, api.ENOTDIR)
			leads(t, o, way(false, name, "in"), true, Found{}, api.ENOTDIR)
		}
	}
}

// TestOwnGet: P6.1, rule 3, each error of Get, as the last name and before it, at once and behind a link.
func TestOwnGet(t *testing.T) {
	o := steady()
	o.targets[8] = told{text: "e"}
	for _, e := range []api.Errno{api.EPERM, api.ENOENT, api.EBADF, api.ENOTDIR, api.EINVAL, api.ELOOP, -1, 99} {
		o.names["e"] = told{ino: 10, e: e}
		for _, dir := range []bool{false, true} {
			at, below := Found{}, Found{}
			if e == api.ENOENT {
				at, below = Found{1, "e", 0}, Found{-7, "e", 0}
			}
			leads(t, o, way(dir, "e"), false, at, e)
			leads(t, o, way(dir, "in", "e"), false, below, e)
			leads(t, o, way(dir, "l"), true, at, e)
			leads(t, o, way(dir, "in", "l"), true, below, e)
			for _, next := range []string{"in", "x", ".", "..", "e"} {
				leads(t, o, way(dir, "e", next), true, Found{}, e)
				leads(t, o, way(dir, "in", "l", next), true, Found{}, e)
			}
		}
	}
}

// TestOwnTarget: P6.1, rule 4, each error of Target, and targets that no branch has.
func TestOwnTarget(t *testing.T) {
	for _, c := range []struct {
		target told
		e      api.Errno
	}{
		{told{text: "in", e: api.EPERM}, api.EPERM},
		{told{text: "in", e: api.ENOENT}, api.ENOENT},
		{told{text: "", e: api.EINVAL}, api.EINVAL},
		{told{text: "in", e: -1}, -1},
		{told{text: ""}, api.ENOENT},
		{told{text: "in" + strings.Repeat("/", 399)}, api.ENAMETOOLONG},
		{told{text: strings.Repeat("x", 100000)}, api.ENAMETOOLONG},
		{told{text: strings.Repeat("x", 61)}, api.ENAMETOOLONG},
		{told{text: "\x00"}, api.EINVAL},
	} {
		o := steady()
		o.targets[8] = c.target
		leads(t, o, way(false, "l"), true, Found{}, c.e)
		leads(t, o, way(true, "l"), false, Found{}, c.e)
		leads(t, o, way(false, "l", "in"), false, Found{}, c.e)
		leads(t, o, way(false, "in", "l", ".."), false, Found{}, c.e)
		leads(t, o, way(false, "in", "l"), false, Found{-7, "l", 8}, api.OK)
	}
}

// TestFirstError: P6.1, which of two errors comes first where both fit.
func TestFirstError(t *testing.T) {
	o := steady()
	o.names["e"] = told{e: api.EPERM}
	// ENOTDIR before Get's error, and before a parent that could be gone to.
	leads(t, o, way(false, "f", "e"), true, Found{}, api.ENOTDIR)
	leads(t, o, way(false, "f", "x"), true, Found{}, api.ENOTDIR)
	leads(t, o, way(false, "f", ".."), true, Found{}, api.ENOTDIR)
	// ENOENT with what is missing, though it would have to be a directory.
	leads(t, o, way(true, "x"), true, Found{1, "x", 0}, api.ENOENT)
	// The link that is one too many, or the link after one less, then 399 names.
	chained(o, 40)
	dots := slices.Repeat([]string{"."}, 399)
	late := way(false, append([]string{"chain0"}, dots...)...)
	next := way(false, append([]string{"chain1"}, dots...)...)
	for _, c := range []struct {
		target told
		e      api.Errno // without ELOOP
	}{
		{told{text: strings.Repeat("x\x00/", 41), e: api.EPERM}, api.EPERM},
		{told{text: strings.Repeat("x/", 41) + "\x00"}, api.EINVAL},
		{told{text: strings.Repeat("x/", 41)}, api.ENAMETOOLONG},
		{told{text: ""}, api.ENOENT},
		{told{text: "x/x"}, api.ENAMETOOLONG},
		{told{text: "f/x"}, api.ENAMETOOLONG},
		{told{text: "m/m"}, api.ENAMETOOLONG},
		{told{text: "x"}, api.ENOENT},
		{told{text: "f"}, api.ENOTDIR},
		{told{text: "e"}, api.EPERM},
	} {
		o.targets[9] = c.target
		leads(t, o, late, true, Found{}, api.ELOOP)
		leads(t, o, next, true, Found{}, c.e)
	}
	// Target's error and Parse's before too many names.
	dots = append(dots, dots...)
	o.targets[9] = told{text: "in", e: api.EPERM}
	leads(t, o, way(false, append([]string{"m"}, dots...)...), true, Found{}, api.EPERM)
	o.targets[9] = told{text: "x\x00"}
	leads(t, o, way(false, append([]string{"m"}, dots...)...), true, Found{}, api.EINVAL)
	o.targets[9] = told{text: ""}
	leads(t, o, way(false, append([]string{"m"}, dots...)...), true, Found{}, api.ENOENT)
}

// chained gives a tree n links from chain0 on, of which each leads to the next one and the last one to m.
func chained(o *own, n int) {
	for i := range n {
		next := "chain" + strconv.Itoa(i+1)
		if i == n-1 {
			next = "m"
		}
		o.names["chain"+strconv.Itoa(i)] = told{ino: 100 + i}
		o.kinds[100+i] = api.Link
		o.targets[100+i] = told{text: next}
	}
}

// TestTurn: P6.2, trees that lead round and round, or that have more and more names: each walk ends.
func TestTurn(t *testing.T) {
	o := steady()
	for _, c := range []struct {
		target string
		e      api.Errno
	}{
		{"l", api.ELOOP},
		{"/l", api.ELOOP},
		{"in/l", api.ELOOP},
		{"./../l/", api.ELOOP},
		{"l/l", api.ELOOP},
		{strings.Repeat("l/", 10), api.ELOOP},        // 10, and 9 more at each of 40 links
		{strings.Repeat("l/", 11), api.ENAMETOOLONG}, // 11, and 10 more each time
		{strings.Repeat("l/", 40), api.ENAMETOOLONG}, // 40, and 39 more each time
		{"l/" + strings.Repeat("in/", 39), api.ENAMETOOLONG},
		{strings.Repeat("in/", 39) + "l", api.ELOOP},
	} {
		o.targets[8] = told{text: c.target}
		leads(t, o, way(false, "l"), true, Found{}, c.e)
		leads(t, o, way(true, "in", "l"), false, Found{}, c.e)
	}
	many := slices.Repeat([]string{"in"}, 1000000)
	leads(t, o, way(true, many...), true, Found{-7, "in", -7}, api.OK)
}

// TestNoTree: R1, nothing panics: a tree that is none, and one that panics.
func TestNoTree(t *testing.T) {
	for _, tree := range []Tree{nil, (*branch.Branch)(nil), (*own)(nil), branch.New(-1), &own{}} {
		for _, dir := range []bool{false, true} {
			leads(t, tree, way(dir), true, Found{1, "", 1}, api.OK)
			for _, name := range []string{"a", "", ".", ".."} {
				leads(t, tree, way(dir, name), true, Found{}, api.ENOTDIR)
				leads(t, tree, way(dir, name, "a"), false, Found{}, api.ENOTDIR)
			}
		}
	}
	for _, method := range []string{"Kind", "Get", "Target", "Parent"} {
		o := steady()
		o.panics = method
		leads(t, o, way(false, "in", "..", "in", "..", "l"), true, Found{}, api.ENOTDIR)
	}
}
