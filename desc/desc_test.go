package desc

import (
	"math"
	"math/rand/v2"
	"slices"
	"strconv"
	"strings"
	"testing"

	"veneer/api"
)

// badNumbers are numbers that no descriptor has, some of which are one in their low bits.
func badNumbers() []int {
	return []int{
		-1, -2, -31, -32, -33, -64, -256, math.MinInt, math.MinInt + 1, math.MinInt + 31, -(1 << 32), math.MinInt32,
		32, 33, 63, 64, 100, 256, 1 << 16, 1 << 32, 1<<32 + 1, 1<<63 - 32, math.MaxInt32, math.MaxInt - 1, math.MaxInt,
	}
}

// texts are n names.
func texts(n int) []string {
	names := make([]string, n)
	for i := range names {
		names[i] = "n" + strconv.Itoa(i)
	}
	return names
}

// TestExample: P7.1: the chapter's example.
func TestExample(t *testing.T) {
	b := newBoth(t)
	x, y, z := api.Desc{Ino: 1}, api.Desc{Ino: 2}, api.Desc{Ino: 3}
	for i, d := range []api.Desc{x, y} {
		if fd, e := b.open(d); fd != i || e != api.OK {
			t.Errorf("Open: %d, %d", fd, e)
		}
	}
	if d, e := b.d.Close(0); !same(d, x) || e != api.OK {
		t.Errorf("Close(0): %v, %d", d, e)
	}
	if fd, e := b.d.Open(z); fd != 0 || e != api.OK {
		t.Errorf("Open: %d, %d", fd, e)
	}
	if d, e := b.d.Get(0); !same(d, z) || e != api.OK {
		t.Errorf("Get(0): %v, %d", d, e)
	}
	if d, e := b.d.Get(2); !same(d, api.Desc{}) || e != api.EBADF {
		t.Errorf("Get(2): %v, %d", d, e)
	}
}

// TestEmpty: P7.1: in a new table none is open.
func TestEmpty(t *testing.T) {
	if d := New(); d == nil || d.Full() || len(d.All()) != 0 {
		t.Fatalf("a new table: %v", d)
	}
	b := newBoth(t)
	for fd := range 32 {
		if b.set(fd, numbered(fd)) != api.EBADF || b.close(fd) != api.EBADF {
			t.Errorf("%d is open", fd)
		}
	}
	if fd, e := b.open(numbered(0)); fd != 0 || e != api.OK {
		t.Errorf("Open: %d, %d", fd, e)
	}
}

// TestFill: P7.1: all are opened in their order, and one more gets EMFILE, however often; closed again, they are opened anew.
func TestFill(t *testing.T) {
	b := newBoth(t)
	for round := range 3 {
		for i := range 32 {
			if b.d.Full() {
				t.Errorf("full with %d open", i)
			}
			if fd, e := b.open(numbered(i + round)); fd != i || e != api.OK {
				t.Errorf("Open: %d, %d, want %d", fd, e, i)
			}
			if all := b.d.All(); len(all) != i+1 || all[0] != 0 || all[i] != i {
				t.Errorf("All with %d open: %v", i+1, all)
			}
		}
		for range 3 {
			if fd, e := b.open(numbered(99)); fd != 0 || e != api.EMFILE || !b.d.Full() {
				t.Errorf("one more: %d, %d", fd, e)
			}
		}
		for i := range 32 {
			if e := b.close((i*5 + round) % 32); e != api.OK {
				t.Errorf("Close: %d", e)
			}
		}
		if len(b.d.All()) != 0 {
			t.Errorf("All: %v", b.d.All())
		}
	}
}

// TestReopen: P7.1: of a full table one is closed, first, last or between: it is what is opened next, and then the table is full again.
func TestReopen(t *testing.T) {
	b := opened(t, 32)
	for fd := range 32 {
		if e := b.close(fd); e != api.OK || b.d.Full() || len(b.d.All()) != 31 || slices.Contains(b.d.All(), fd) {
			t.Errorf("Close(%d): %d, and open are %v", fd, e, b.d.All())
		}
		if got, e := b.open(numbered(fd + 50)); got != fd || e != api.OK || !b.d.Full() {
			t.Errorf("Open: %d, %d, want %d", got, e, fd)
		}
		if got, e := b.open(numbered(98)); got != 0 || e != api.EMFILE {
			t.Errorf("one more: %d, %d", got, e)
		}
	}
}

// TestLowest: P7.1: the lowest one that isn't open is opened, in whatever order they were closed.
func TestLowest(t *testing.T) {
	for a := range 32 {
		for c := range 32 {
			if a == c {
				continue
			}
			b := opened(t, 32)
			b.close(a)
			b.close(c)
			for _, want := range []int{min(a, c), max(a, c)} {
				if fd, e := b.open(numbered(60)); fd != want || e != api.OK {
					t.Fatalf("%d and %d closed: %d, %d", a, c, fd, e)
				}
			}
		}
	}
}

// TestNumbers: P7.1: what is no number of a descriptor isn't open, and nothing changes.
func TestNumbers(t *testing.T) {
	for _, many := range []int{0, 1, 16, 31, 32} {
		b := opened(t, many)
		for _, fd := range badNumbers() {
			b.get(fd)
			if d, e := b.d.Get(fd); !same(d, api.Desc{}) || e != api.EBADF {
				t.Errorf("Get(%d): %v, %d", fd, d, e)
			}
			if e := b.set(fd, numbered(70)); e != api.EBADF {
				t.Errorf("Set(%d): %d", fd, e)
			}
			if e := b.close(fd); e != api.EBADF {
				t.Errorf("Close(%d): %d", fd, e)
			}
		}
		// The first one that isn't open is as little a descriptor's.
		if e := b.set(many, numbered(71)); e != api.EBADF {
			t.Errorf("Set(%d): %d", many, e)
		}
		if e := b.close(many); e != api.EBADF {
			t.Errorf("Close(%d): %d", many, e)
		}
	}
}

// TestClosed: P7.1: what is closed is closed: twice, set or got after it, until it is opened with another value.
func TestClosed(t *testing.T) {
	for _, fd := range []int{0, 1, 15, 30, 31} {
		b := opened(t, 32)
		want := numbered(fd)
		if d, e := b.d.Close(fd); !same(d, want) || e != api.OK {
			t.Errorf("Close(%d): %v, %d", fd, d, e)
		}
		b.p.close(fd)
		for range 2 {
			if d, e := b.d.Close(fd); !same(d, api.Desc{}) || e != api.EBADF {
				t.Errorf("Close(%d) once more: %v, %d", fd, d, e)
			}
			if d, e := b.d.Get(fd); !same(d, api.Desc{}) || e != api.EBADF {
				t.Errorf("Get(%d): %v, %d", fd, d, e)
			}
			if e := b.set(fd, want); e != api.EBADF {
				t.Errorf("Set(%d): %d", fd, e)
			}
		}
		if got, e := b.open(api.Desc{}); got != fd || e != api.OK {
			t.Errorf("Open: %d, %d, want %d", got, e, fd)
		}
		if d, e := b.d.Get(fd); !same(d, api.Desc{}) || e != api.OK {
			t.Errorf("Get(%d): %v, %d", fd, d, e)
		}
	}
}

// values are descriptors of all kinds: the table takes any.
func values() []api.Desc {
	var all []api.Desc
	for _, n := range []int{0, 1, -1, 200, 201, math.MaxInt, math.MinInt} {
		all = append(all, api.Desc{Ino: n}, api.Desc{Flag: n}, api.Desc{Off: int64(n)}, api.Desc{At: n}, api.Desc{Ino: n, Flag: n, Off: int64(n), At: n})
	}
	for _, names := range [][]string{
		nil, {}, {""}, {"a"}, {"", ""}, {"b", "a", "b"}, {"/", "\x00", "..", "\xff"}, {strings.Repeat("x", 100000)}, texts(5), texts(200), texts(5000),
	} {
		all = append(all, api.Desc{Names: names}, api.Desc{IsDir: true, Names: names, At: len(names)})
	}
	return all
}

// TestValues: P7.1: Get and Close return the whole value that was opened or set last.
func TestValues(t *testing.T) {
	b := opened(t, 3)
	for _, old := range []api.Desc{{}, numbered(7)} {
		for _, d := range values() {
			fd, e := b.open(d)
			if fd != 3 || e != api.OK {
				t.Fatalf("Open: %d, %d", fd, e)
			}
			b.close(fd)
			b.open(old)
			if e := b.set(fd, d); e != api.OK {
				t.Errorf("Set: %d", e)
			}
			if got, e := b.d.Get(fd); !same(got, d) || e != api.OK {
				t.Errorf("Get: %v, %d, want %v", got, e, d)
			}
			b.set(fd, old)
			b.set(fd, d)
			if got, e := b.d.Close(fd); !same(got, d) || e != api.OK {
				t.Errorf("Close: %v, %d, want %v", got, e, d)
			}
			b.p.close(fd)
		}
	}
}

// holds holds a descriptor to its names.
func holds(t *testing.T, d *Table, fd int, names ...string) {
	t.Helper()
	if got, e := d.Get(fd); !slices.Equal(got.Names, names) || e != api.OK {
		t.Errorf("Get(%d): names %q, %d, want %q", fd, got.Names, e, names)
	}
}

// TestHandedIn: P7.1: names that are changed behind Open and Set don't change a value.
func TestHandedIn(t *testing.T) {
	d := New()
	names := []string{"a", "b", "c"}
	d.Open(api.Desc{Names: names[:2]})
	d.Open(api.Desc{Names: names[1:]})
	names[1] = "x"
	holds(t, d, 0, "a", "b")
	holds(t, d, 1, "b", "c")
	d.Set(0, api.Desc{Names: names})
	names[0] = "y"
	holds(t, d, 0, "a", "x", "c")
	d.Set(0, api.Desc{Names: names[:0]})
	holds(t, d, 0)
	if !slices.Equal(names, []string{"y", "x", "c"}) {
		t.Errorf("the names that were handed in have changed: %q", names)
	}
}

// TestReturned: P7.1: what is returned is apart from the table, and from what else is returned.
func TestReturned(t *testing.T) {
	d := New()
	d.Open(api.Desc{Names: []string{"a", "b"}})
	x, _ := d.Get(0)
	y, _ := d.Get(0)
	d.Set(0, y)
	d.Open(x)
	x.Names[0] = "x"
	y.Names[1] = "y"
	_ = append(x.Names[:1], "z")
	holds(t, d, 0, "a", "b")
	holds(t, d, 1, "a", "b")
	if !slices.Equal(y.Names, []string{"a", "y"}) {
		t.Errorf("two answers share their names: %q", y.Names)
	}
	z, _ := d.Close(0)
	if !slices.Equal(z.Names, []string{"a", "b"}) {
		t.Errorf("Close: names %q", z.Names)
	}
	d.Open(z)
	z.Names[0] = "z"
	holds(t, d, 0, "a", "b")
	holds(t, d, 1, "a", "b")
	all := d.All()
	all[0] = 9
	if !slices.Equal(d.All(), []int{0, 1}) {
		t.Errorf("All: %v", d.All())
	}
}

// TestOthers: P7.2: a value stays, whatever is done with all others, until it is set or closed.
func TestOthers(t *testing.T) {
	for fd := range 32 {
		b := opened(t, 32)
		want := numbered(fd)
		stays := func() {
			t.Helper()
			if d, e := b.d.Get(fd); !same(d, want) || e != api.OK {
				t.Fatalf("Get(%d): %v, %d, want %v", fd, d, e, want)
			}
		}
		for other := range 32 {
			if other == fd {
				continue
			}
			b.set(other, api.Desc{Ino: fd, Names: want.Names})
			stays()
			b.close(other)
			b.close(other)
			stays()
		}
		for range 33 {
			b.open(numbered(80))
			stays()
		}
		want = numbered(fd + 1)
		b.set(fd, want)
		stays()
		b.close(fd)
	}
}

// TestApart: P7.1: tables are apart from each other, and the same calls answer the same (R4, R5).
func TestApart(t *testing.T) {
	a, b := newBoth(t), newBoth(t)
	for i := range 32 {
		a.open(numbered(i))
	}
	b.look()
	if fd, e := b.open(numbered(5)); fd != 0 || e != api.OK {
		t.Errorf("Open: %d, %d", fd, e)
	}
	a.close(0)
	b.set(0, numbered(6))
	a.look()
	b.look()
}

// TestEach: P7.1, P7.2: every list of calls out of a few, on a table that is empty and on one that is nearly full.
func TestEach(t *testing.T) {
	for _, low := range []int{0, 30} {
		calls := []func(*both){
			func(b *both) { b.open(numbered(7)) },
			func(b *both) { b.open(api.Desc{}) },
			func(b *both) { b.set(low, numbered(11)) },
			func(b *both) { b.set(low+1, numbered(3)) },
			func(b *both) { b.close(low) },
			func(b *both) { b.close(low + 1) },
		}
		const long = 5
		lists := 1
		for range long {
			lists *= len(calls)
		}
		for list := range lists {
			b := opened(t, low)
			for rest, i := list, 0; i < long; rest, i = rest/len(calls), i+1 {
				calls[rest%len(calls)](b)
			}
		}
	}
}

// TestRandom: P7.1, P7.2: many calls in any order, on tables that fill and empty.
func TestRandom(t *testing.T) {
	r := rand.New(rand.NewPCG(7, 1))
	for range 20 {
		b := newBoth(t)
		opens := 3
		for i := range 2000 {
			if i%200 == 0 {
				opens = 2 + r.IntN(6)
			}
			fd, d := r.IntN(34)-1, numbered(r.IntN(1000))
			switch n := r.IntN(10); {
			case n < opens:
				b.open(d)
			case n < 8:
				b.close(fd)
			default:
				b.set(fd, d)
			}
		}
	}
}
