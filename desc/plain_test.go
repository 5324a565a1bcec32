package desc

import (
	"slices"
	"strconv"
	"testing"

	"veneer/api"
)

// plain is a table told the plainest way: values by their numbers, as far as they are open.
type plain map[int]api.Desc

func (p plain) open(d api.Desc) (int, api.Errno) {
	for fd := 0; fd < 32; fd++ {
		if _, there := p[fd]; !there {
			p[fd] = d
			return fd, api.OK
		}
	}
	return 0, api.EMFILE
}

func (p plain) get(fd int) (api.Desc, api.Errno) {
	if d, there := p[fd]; there {
		return d, api.OK
	}
	return api.Desc{}, api.EBADF
}

func (p plain) set(fd int, d api.Desc) api.Errno {
	_, e := p.get(fd)
	if e == api.OK {
		p[fd] = d
	}
	return e
}

func (p plain) close(fd int) (api.Desc, api.Errno) {
	d, e := p.get(fd)
	delete(p, fd)
	return d, e
}

func (p plain) all() []int {
	var all []int
	for fd := range p {
		all = append(all, fd)
	}
	slices.Sort(all)
	return all
}

// both is a table and the plain one beside it: each call is made on both, and what they answer held together. What is handed in and what is returned is spoilt after each call, and no value may change with it.
type both struct {
	t *testing.T
	d *Table
	p plain
}

func newBoth(t *testing.T) *both {
	t.Helper()
	b := &both{t: t, d: New(), p: plain{}}
	b.look()
	return b
}

// opened is a table of which this many are open.
func opened(t *testing.T, many int) *both {
	t.Helper()
	b := newBoth(t)
	for i := range many {
		b.d.Open(numbered(i))
		b.p.open(numbered(i))
	}
	b.look()
	return b
}

// numbered is a descriptor that no other number has: its names too are of its own, and from none to three.
func numbered(i int) api.Desc {
	d := api.Desc{Ino: 100 + i, Flag: 200 + i, Off: int64(300 + i), IsDir: i%2 == 0, At: 400 + i}
	for j := range i % 4 {
		d.Names = append(d.Names, strconv.Itoa(i)+"."+strconv.Itoa(j))
	}
	return d
}

// same tells whether descriptors are the same; no names are as good as nil.
func same(a, b api.Desc) bool {
	return a.Ino == b.Ino && a.Flag == b.Flag && a.Off == b.Off && a.IsDir == b.IsDir && a.At == b.At && slices.Equal(a.Names, b.Names)
}

// spoil changes all names of a list, and what it has room for behind them.
func spoil(names []string) {
	names = names[:cap(names)]
	for i := range names {
		names[i] = "spoilt"
	}
}

// handed is a descriptor with names of its own, and the list in which they stand with one before and one behind them.
func handed(d api.Desc) (api.Desc, []string) {
	list := slices.Concat([]string{"before"}, d.Names, []string{"behind"})
	d.Names = list[1 : len(list)-1]
	return d, list
}

// untouched holds a list to what was handed in, and then spoils it.
func (b *both) untouched(d api.Desc, list []string) {
	b.t.Helper()
	if want := slices.Concat([]string{"before"}, d.Names, []string{"behind"}); !slices.Equal(list, want) {
		b.t.Fatalf("the names that were handed in have changed: %q, want %q", list, want)
	}
	spoil(list)
}

func (b *both) open(d api.Desc) (int, api.Errno) {
	b.t.Helper()
	in, list := handed(d)
	fd, e := b.d.Open(in)
	b.untouched(d, list)
	if n, f := b.p.open(d); fd != n || e != f {
		b.t.Fatalf("Open(%v): %d, %d, want %d, %d", d, fd, e, n, f)
	}
	b.look()
	return fd, e
}

func (b *both) get(fd int) {
	b.t.Helper()
	got, e := b.d.Get(fd)
	if want, f := b.p.get(fd); !same(got, want) || e != f {
		b.t.Fatalf("Get(%d): %v, %d, want %v, %d", fd, got, e, want, f)
	}
	spoil(got.Names)
}

func (b *both) set(fd int, d api.Desc) api.Errno {
	b.t.Helper()
	in, list := handed(d)
	e := b.d.Set(fd, in)
	b.untouched(d, list)
	if f := b.p.set(fd, d); e != f {
		b.t.Fatalf("Set(%d, %v): %d, want %d", fd, d, e, f)
	}
	b.look()
	return e
}

func (b *both) close(fd int) api.Errno {
	b.t.Helper()
	got, e := b.d.Close(fd)
	if want, f := b.p.close(fd); !same(got, want) || e != f {
		b.t.Fatalf("Close(%d): %v, %d, want %v, %d", fd, got, e, want, f)
	}
	spoil(got.Names)
	b.look()
	return e
}

// look holds all that both tell together, twice: what it spoils of the first answers must not be seen in the second ones.
func (b *both) look() {
	b.t.Helper()
	for range 2 {
		for fd := -2; fd < 34; fd++ {
			b.get(fd)
		}
		all := b.d.All()
		if want := b.p.all(); !slices.Equal(all, want) {
			b.t.Fatalf("All: %v, want %v", all, want)
		}
		clear(all)
		if got, want := b.d.Full(), len(b.p) == 32; got != want {
			b.t.Fatalf("Full: %t with %d open", got, len(b.p))
		}
	}
}
