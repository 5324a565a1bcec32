package dents

import (
	"math"
	"math/rand/v2"
	"slices"
	"strconv"
	"strings"
	"testing"

	"veneer/api"
)

// plain is a directory told the plainest way: inodes by their names, in no order.
type plain map[string]int

// nameError tells what is wrong with a name that is set, or OK.
func nameError(name string) api.Errno {
	switch {
	case name == "":
		return api.ENOENT
	case len(name) > 60:
		return api.ENAMETOOLONG
	case strings.Contains(name, "\x00"), strings.Contains(name, "/"), name == ".", name == "..":
		return api.EINVAL
	}
	return api.OK
}

func (p plain) set(name string, ino int) api.Errno {
	if e := nameError(name); e != api.OK {
		return e
	}
	if ino < 1 {
		return api.EINVAL
	}
	p[name] = ino
	return api.OK
}

func (p plain) get(name string) (int, api.Errno) {
	if ino, there := p[name]; there {
		return ino, api.OK
	}
	return 0, api.ENOENT
}

func (p plain) del(name string) (int, api.Errno) {
	ino, e := p.get(name)
	delete(p, name)
	return ino, e
}

func (p plain) all() []api.Entry {
	var all []api.Entry
	for name, ino := range p {
		all = append(all, api.Entry{Name: name, Ino: ino})
	}
	slices.SortFunc(all, func(a, b api.Entry) int { return strings.Compare(a.Name, b.Name) })
	return all
}

// next goes through all entries, since any of them may be the lowest one above the text.
func (p plain) next(text string) (api.Entry, bool) {
	var next api.Entry
	found := false
	for name, ino := range p {
		if name > text && (!found || name < next.Name) {
			next, found = api.Entry{Name: name, Ino: ino}, true
		}
	}
	return next, found
}

// both is a directory and the plain one beside it: each call is made on both, and what they answer held together.
type both struct {
	t *testing.T
	d *Dir
	p plain
}

func newBoth(t *testing.T) *both {
	t.Helper()
	b := &both{t: t, d: New(), p: plain{}}
	b.look()
	return b
}

// filled is a directory with these names, whose inodes are 1, 2 and so on.
func filled(t *testing.T, names ...string) *both {
	t.Helper()
	b := newBoth(t)
	for i, name := range names {
		b.set(name, i+1)
	}
	return b
}

func (b *both) set(name string, ino int) api.Errno {
	b.t.Helper()
	e := b.d.Set(name, ino)
	if f := b.p.set(name, ino); e != f {
		b.t.Fatalf("Set(%q, %d): %d, want %d", name, ino, e, f)
	}
	b.look()
	return e
}

func (b *both) get(name string) {
	b.t.Helper()
	ino, e := b.d.Get(name)
	if n, f := b.p.get(name); ino != n || e != f {
		b.t.Fatalf("Get(%q): %d, %d, want %d, %d", name, ino, e, n, f)
	}
	b.look()
}

func (b *both) del(name string) {
	b.t.Helper()
	ino, e := b.d.Del(name)
	if n, f := b.p.del(name); ino != n || e != f {
		b.t.Fatalf("Del(%q): %d, %d, want %d, %d", name, ino, e, n, f)
	}
	b.look()
}

func (b *both) next(text string) {
	b.t.Helper()
	x, is := b.d.Next(text)
	if y, f := b.p.next(text); x != y || is != f {
		b.t.Fatalf("Next(%q): %v, %t, want %v, %t", text, x, is, y, f)
	}
	b.look()
}

// look holds all entries of both together.
func (b *both) look() {
	b.t.Helper()
	if got, want := b.d.All(), b.p.all(); !slices.Equal(got, want) {
		b.t.Fatalf("All: %v, want %v", got, want)
	}
	if got := b.d.Len(); got != len(b.p) {
		b.t.Fatalf("Len: %d, want %d", got, len(b.p))
	}
}

// badNames are names that no entry may have: of each error some.
func badNames() []string {
	long := strings.Repeat("x", 60)
	return []string{
		"",
		long + "x", strings.Repeat("/", 61), strings.Repeat("\x00", 61), strings.Repeat(".", 61), strings.Repeat("\u00e9", 31), strings.Repeat("x", 100000),
		"/", "\x00", "a/", "/a", "a/b", "a\x00", "\x00a", "../", "./", long[1:] + "/", long[1:] + "\x00",
		".", "..",
	}
}

// goodNames are names that an entry may have, in their order.
func goodNames() []string {
	return []string{
		"\x01", " ", "-", "...", "..a", ".a", "0", "10", "9", "A", "a", "a ", "a.", "aa", "aaa", "ab", "b", strings.Repeat("x", 59), strings.Repeat("x", 60),
		"\x7f", "\x80", "\x80a", "\u00e9", "\uffff", "\U00010000", "\xfe", "\xff", "\xff\xff",
	}
}

// orders makes all orders of some names.
func orders(names []string) [][]string {
	if len(names) == 0 {
		return [][]string{nil}
	}
	var all [][]string
	for i := range names {
		rest := slices.Delete(slices.Clone(names), i, i+1)
		for _, order := range orders(rest) {
			all = append(all, append([]string{names[i]}, order...))
		}
	}
	return all
}

// TestExamples: the chapter's examples.
func TestExamples(t *testing.T) {
	d := New()
	for _, c := range []struct {
		name string
		ino  int
		want api.Errno
	}{
		{"b", 7, api.OK}, {"a", 8, api.OK}, {"b", 9, api.OK}, {"..", 1, api.EINVAL}, {"a/", 1, api.EINVAL}, {"c", 0, api.EINVAL},
	} {
		if e := d.Set(c.name, c.ino); e != c.want {
			t.Errorf("Set(%q, %d): %d, want %d", c.name, c.ino, e, c.want)
		}
	}
	if all := d.All(); !slices.Equal(all, []api.Entry{{Name: "a", Ino: 8}, {Name: "b", Ino: 9}}) {
		t.Errorf("All: %v", all)
	}
	if x, is := d.Next("a"); x != (api.Entry{Name: "b", Ino: 9}) || !is {
		t.Errorf("Next of a: %v, %t", x, is)
	}
	if x, is := d.Next("b"); x != (api.Entry{}) || is {
		t.Errorf("Next of b: %v, %t", x, is)
	}
	if ino, e := d.Del("a"); ino != 8 || e != api.OK {
		t.Errorf("Del of a: %d, %d", ino, e)
	}
	if ino, e := d.Del("a"); ino != 0 || e != api.ENOENT {
		t.Errorf("Del of a, again: %d, %d", ino, e)
	}
}

// TestEmpty: P4.1 and P4.2, a directory without entries, new and emptied.
func TestEmpty(t *testing.T) {
	emptied := filled(t, "a", "b")
	emptied.del("a")
	emptied.del("b")
	for _, d := range []*Dir{New(), emptied.d} {
		if d.Len() != 0 || len(d.All()) != 0 {
			t.Errorf("Len, All: %d, %v", d.Len(), d.All())
		}
		for _, name := range append(badNames(), goodNames()...) {
			if ino, e := d.Get(name); ino != 0 || e != api.ENOENT {
				t.Errorf("Get(%q): %d, %d", name, ino, e)
			}
			if ino, e := d.Del(name); ino != 0 || e != api.ENOENT {
				t.Errorf("Del(%q): %d, %d", name, ino, e)
			}
			if x, is := d.Next(name); x != (api.Entry{}) || is {
				t.Errorf("Next(%q): %v, %t", name, x, is)
			}
		}
		if d.Len() != 0 || len(d.All()) != 0 {
			t.Errorf("Len, All after Get, Del and Next: %d, %v", d.Len(), d.All())
		}
	}
}

// TestSetName: P4.1, the errors of a name, with inodes right and wrong: the name's error is the first one.
func TestSetName(t *testing.T) {
	long := strings.Repeat("x", 60)
	for _, c := range []struct {
		name string
		want api.Errno
	}{
		{"", api.ENOENT},
		{long + "x", api.ENAMETOOLONG},
		{strings.Repeat("/", 61), api.ENAMETOOLONG},
		{strings.Repeat("\x00", 61), api.ENAMETOOLONG},
		{strings.Repeat(".", 61), api.ENAMETOOLONG},
		{"/", api.EINVAL},
		{"\x00", api.EINVAL},
		{"a/", api.EINVAL},
		{"/a", api.EINVAL},
		{"a\x00", api.EINVAL},
		{long[1:] + "/", api.EINVAL},
		{".", api.EINVAL},
		{"..", api.EINVAL},
	} {
		for _, b := range []*both{newBoth(t), filled(t, "b", "a", "\xff", ".a")} {
			for _, ino := range []int{1, 200, 0, -1} {
				if e := b.set(c.name, ino); e != c.want {
					t.Errorf("Set(%q, %d): %d, want %d", c.name, ino, e, c.want)
				}
			}
		}
	}
}

// TestBadNames: P4.1 and P4.2, what no entry may be named, with each of the functions.
func TestBadNames(t *testing.T) {
	b := filled(t, goodNames()...)
	for _, name := range badNames() {
		if e := b.set(name, 1); e == api.OK {
			t.Errorf("Set(%q, 1): OK", name)
		}
		if ino, e := b.d.Get(name); ino != 0 || e != api.ENOENT {
			t.Errorf("Get(%q): %d, %d", name, ino, e)
		}
		if ino, e := b.d.Del(name); ino != 0 || e != api.ENOENT {
			t.Errorf("Del(%q): %d, %d", name, ino, e)
		}
		b.next(name)
	}
}

// TestGoodNames: P4.1, what an entry may be named, each alone and with all others.
func TestGoodNames(t *testing.T) {
	all := newBoth(t)
	for _, name := range goodNames() {
		for _, b := range []*both{newBoth(t), all} {
			if e := b.set(name, 5); e != api.OK {
				t.Errorf("Set(%q, 5): %d", name, e)
			}
			b.get(name)
			b.next(name)
		}
	}
	for _, name := range goodNames() {
		all.del(name)
		all.get(name)
	}
}

// TestNameByte: P4.1, names of each byte, alone and within.
func TestNameByte(t *testing.T) {
	b := newBoth(t)
	for i := range 256 {
		c := string([]byte{byte(i)})
		for _, name := range []string{c, "a" + c, c + "a", "a" + c + "b"} {
			b.set(name, i+1)
			b.get(name)
		}
	}
}

// TestInode: P4.1, the inodes at the edge, of a name that is new and of one that is there.
func TestInode(t *testing.T) {
	for _, c := range []struct {
		ino  int
		want api.Errno
	}{
		{math.MinInt, api.EINVAL}, {-200, api.EINVAL}, {-1, api.EINVAL}, {0, api.EINVAL},
		{1, api.OK}, {2, api.OK}, {200, api.OK}, {201, api.OK}, {math.MaxInt, api.OK},
	} {
		for _, b := range []*both{newBoth(t), filled(t, "a", "b", "c")} {
			if e := b.set("b", c.ino); e != c.want {
				t.Errorf("Set(b, %d): %d, want %d", c.ino, e, c.want)
			}
			b.get("b")
		}
	}
}

// TestReplace: P4.1, a name that is set again has the later inode, and is there once.
func TestReplace(t *testing.T) {
	names := []string{"a", "b", "c", "d"}
	for _, name := range names {
		b := filled(t, names...)
		for _, ino := range []int{9, 9, 1, 70} {
			b.set(name, ino)
			if got, e := b.d.Get(name); got != ino || e != api.OK {
				t.Errorf("Get(%q): %d, %d, want %d", name, got, e, ino)
			}
			if b.d.Len() != 4 {
				t.Errorf("%d entries", b.d.Len())
			}
		}
		b.del(name)
		b.get(name)
		b.set(name, 3)
		b.get(name)
	}
}

// TestSameInode: P4.1, several names may have one inode, and stay apart.
func TestSameInode(t *testing.T) {
	b := newBoth(t)
	for _, name := range []string{"c", "a", "b"} {
		b.set(name, 7)
	}
	b.del("b")
	b.set("a", 8)
	b.get("a")
	b.get("b")
	b.get("c")
}

// TestAbsent: P4.1, names that aren't there: below, between and above those that are.
func TestAbsent(t *testing.T) {
	b := filled(t, "bb", "dd", "ff")
	for _, name := range []string{"a", "b", "bba", "c", "d", "dc", "dda", "e", "f", "fe", "ffa", "g", "\xff", "\x01", "BB"} {
		if ino, e := b.d.Get(name); ino != 0 || e != api.ENOENT {
			t.Errorf("Get(%q): %d, %d", name, ino, e)
		}
		if ino, e := b.d.Del(name); ino != 0 || e != api.ENOENT {
			t.Errorf("Del(%q): %d, %d", name, ino, e)
		}
		b.look()
	}
}

// TestDelOrders: P4.1, the entries come and go in every order: the first, a middle and the last one.
func TestDelOrders(t *testing.T) {
	names := []string{"a", "ab", "b", "\xff"}
	for _, in := range orders(names) {
		for _, out := range orders(names) {
			b := filled(t, in...)
			for _, name := range out {
				b.del(name)
				b.del(name)
				b.get(name)
				b.next(name)
			}
		}
	}
}

// TestOrder: P4.2, the entries are ordered, however they came.
func TestOrder(t *testing.T) {
	want := goodNames()
	backwards := slices.Clone(want)
	slices.Reverse(backwards)
	mixed := slices.Clone(want)
	r := rand.New(rand.NewPCG(4, 2))
	r.Shuffle(len(mixed), func(i, j int) { mixed[i], mixed[j] = mixed[j], mixed[i] })
	for _, order := range [][]string{want, backwards, mixed} {
		b := filled(t, order...)
		var got []string
		for _, x := range b.d.All() {
			got = append(got, x.Name)
		}
		if !slices.Equal(got, want) {
			t.Errorf("%q, want %q", got, want)
		}
	}
}

// TestPrefixes: P4.1 and P4.2, names that are beginnings of one another are different ones.
func TestPrefixes(t *testing.T) {
	long := strings.Repeat("p", 60)
	b := newBoth(t)
	for n := 60; n > 0; n-- {
		b.set(long[:n], n)
	}
	for n := 1; n <= 60; n++ {
		if ino, e := b.d.Get(long[:n]); ino != n || e != api.OK {
			t.Errorf("Get of %d bytes: %d, %d", n, ino, e)
		}
		b.next(long[:n])
	}
	b.del(long[:30])
	b.get(long[:30])
	b.get(long[:29])
	b.next(long[:29])
}

// TestNext: P4.2, Next of any text.
func TestNext(t *testing.T) {
	b := filled(t, "b", "bb", "d", "\x80", "\xfe")
	for _, c := range []struct {
		text string
		want string
	}{
		{"", "b"}, {"\x00", "b"}, {"/", "b"}, {".", "b"}, {"..", "b"}, {"a", "b"}, {"a/b", "b"}, {strings.Repeat("a", 100000), "b"},
		{"b", "bb"}, {"b\x00", "bb"}, {"b/", "bb"}, {"ba", "bb"},
		{"bb", "d"}, {"bb\x00", "d"}, {"c", "d"}, {"c/d", "d"}, {strings.Repeat("c", 61), "d"},
		{"d", "\x80"}, {"d/", "\x80"}, {"\x7f", "\x80"},
		{"\x80", "\xfe"}, {"\u00e9", "\xfe"},
		{"\xfe", ""}, {"\xfe\x00", ""}, {"\xfe/", ""}, {"\xff", ""}, {strings.Repeat("\xff", 100000), ""},
	} {
		x, is := b.d.Next(c.text)
		if x.Name != c.want || is != (c.want != "") {
			t.Errorf("Next(%q): %v, %t, want %q", c.text, x, is, c.want)
		}
		b.next(c.text)
	}
}

// walked is what going on by Next yields, from the empty string.
func walked(d *Dir) []api.Entry {
	var all []api.Entry
	for x, is := d.Next(""); is; x, is = d.Next(x.Name) {
		all = append(all, x)
		if len(all) > d.Len() {
			break
		}
	}
	return all
}

// TestWalked: P4.3.
func TestWalked(t *testing.T) {
	b := newBoth(t)
	for i, name := range append([]string{""}, goodNames()...) {
		b.set(name, i+1)
		if got, want := walked(b.d), b.d.All(); !slices.Equal(got, want) {
			t.Errorf("by Next %v, want %v", got, want)
		}
	}
	for _, name := range goodNames() {
		b.del(name)
		if got, want := walked(b.d), b.d.All(); !slices.Equal(got, want) {
			t.Errorf("by Next %v, want %v", got, want)
		}
	}
}

// TestFresh: what All returns is memory of its own (R3): neither changes with the other.
func TestFresh(t *testing.T) {
	b := filled(t, "c", "a", "b", "e", "f")
	changed, kept := b.d.All(), b.d.All()
	want := slices.Clone(kept)
	for i := range changed {
		changed[i] = api.Entry{Name: "x", Ino: 99}
	}
	b.look()
	b.set("d", 50)
	b.set("a", 51)
	b.del("c")
	if !slices.Equal(kept, want) {
		t.Errorf("what All returned has become %v, and was %v", kept, want)
	}
	for _, x := range changed {
		if x != (api.Entry{Name: "x", Ino: 99}) {
			t.Errorf("what the caller wrote has become %v", x)
		}
	}
}

// TestFreshEnd: what is appended to what All returned goes neither into the directory nor into another answer.
func TestFreshEnd(t *testing.T) {
	b := newBoth(t)
	for n := range 9 {
		one := append(b.d.All(), api.Entry{Name: "one", Ino: 1})
		two := append(b.d.All(), api.Entry{Name: "two", Ino: 2})
		if one[n].Name != "one" || two[n].Name != "two" {
			t.Errorf("of %d entries, two answers of All share memory", n)
		}
		b.look()
		b.set(strconv.Itoa(n), n+1)
		if one[n].Name != "one" || two[n].Name != "two" {
			t.Errorf("of %d entries, Set wrote into what All returned", n)
		}
	}
}

// TestApart: several directories share nothing (R5).
func TestApart(t *testing.T) {
	var all []*both
	for range 4 {
		all = append(all, newBoth(t))
	}
	for i, name := range goodNames() {
		all[i%4].set(name, i+1)
		all[0].set("common", i+1)
		for _, b := range all {
			b.look()
			b.get(name)
			b.get("common")
		}
	}
	for _, name := range goodNames() {
		all[1].del(name)
		for _, b := range all {
			b.look()
		}
	}
	newBoth(t)
}

// TestRandom: P4.1 to P4.3, many calls in any order on several directories.
func TestRandom(t *testing.T) {
	r := rand.New(rand.NewPCG(4, 1))
	texts := append(badNames(), goodNames()...)
	for range 60 {
		text := make([]byte, 1+r.IntN(3))
		for i := range text {
			text[i] = "ab\x80\xff./\x00c"[r.IntN(8)]
		}
		texts = append(texts, string(text))
	}
	for range 30 {
		b := newBoth(t)
		for range 400 {
			text := texts[r.IntN(len(texts))]
			switch r.IntN(6) {
			case 0, 1:
				b.set(text, r.IntN(12)-1)
			case 2, 3:
				b.del(text)
			case 4:
				b.get(text)
			case 5:
				b.next(text)
			}
		}
		if got, want := walked(b.d), b.d.All(); !slices.Equal(got, want) {
			t.Fatalf("by Next %v, want %v", got, want)
		}
	}
}

// TestMany: P4.1 to P4.3, far more entries than a branch has inodes.
func TestMany(t *testing.T) {
	const many = 20000
	d := New()
	for i := range many {
		// 7919 shares no factor with many, so each number comes once, in no order.
		n := i * 7919 % many
		if e := d.Set(strconv.Itoa(n), n+1); e != api.OK {
			t.Fatalf("Set of %d: %d", n, e)
		}
	}
	all := d.All()
	if !slices.IsSortedFunc(all, func(a, b api.Entry) int { return strings.Compare(a.Name, b.Name) }) || d.Len() != many || !slices.Equal(walked(d), all) {
		t.Errorf("%d entries, and not in order", d.Len())
	}
	for n := 0; n < many; n += 2 {
		if ino, e := d.Del(strconv.Itoa(n)); ino != n+1 || e != api.OK {
			t.Fatalf("Del of %d: %d, %d", n, ino, e)
		}
	}
	for n := range many {
		ino, e := d.Get(strconv.Itoa(n))
		if there := n%2 == 1; there != (e == api.OK) || there != (ino == n+1) {
			t.Fatalf("Get of %d: %d, %d", n, ino, e)
		}
	}
	if d.Len() != many/2 {
		t.Errorf("%d entries left", d.Len())
	}
}
