package block

import (
	"bytes"
	"math"
	"math/rand/v2"
	"slices"
	"strings"
	"testing"

	"veneer/api"
)

// plain is a body told the plainest way: each byte up to the greatest size, and which chunks are there.
type plain struct {
	size  int
	bytes [api.MaxFile]byte
	there [api.MaxFile / api.Chunk]bool
}

// chunks tells how many chunks are there.
func (p *plain) chunks() int {
	n := 0
	for _, is := range p.there {
		if is {
			n++
		}
	}
	return n
}

// holes tells the chunks that begin below the size and aren't there.
func (p *plain) holes() []int {
	var out []int
	for k, is := range p.there {
		if k*api.Chunk < p.size && !is {
			out = append(out, k)
		}
	}
	return out
}

// all is a store with some bodies, and the plain bodies beside them: each call is made on both, and what they answer held together.
type all struct {
	t    *testing.T
	s    *Store
	room int
	b    []*Body
	p    []*plain
}

func newAll(t *testing.T, room, bodies int) *all {
	t.Helper()
	a := &all{t: t, s: New(room), room: room}
	if a.s == nil {
		t.Fatalf("New(%d): nil", room)
	}
	for range bodies {
		a.b = append(a.b, a.s.Body())
		a.p = append(a.p, &plain{})
	}
	return a
}

// used tells how many chunks all plain bodies have.
func (a *all) used() int {
	n := 0
	for _, p := range a.p {
		n += p.chunks()
	}
	return n
}

// plainly writes as P3.2 says, byte by byte.
func (a *all) plainly(i int, off int64, data []byte) (int, api.Errno) {
	p, used := a.p[i], a.used()
	switch {
	case off < 0:
		return 0, api.EINVAL
	case len(data) == 0:
		return 0, api.OK
	case off >= api.MaxFile:
		return 0, api.EFBIG
	}
	n := 0
	for at := int(off); n < len(data) && at < api.MaxFile; at++ {
		if !p.there[at/api.Chunk] {
			if used == a.room {
				break
			}
			p.there[at/api.Chunk] = true
			used++
		}
		p.bytes[at] = data[n]
		n++
	}
	if n == 0 {
		return 0, api.ENOSPC
	}
	p.size = max(p.size, int(off)+n)
	return n, api.OK
}

func (a *all) write(i int, off int64, data []byte) {
	a.t.Helper()
	had := bytes.Clone(data)
	n, e := a.s.Write(a.b[i], off, data)
	if m, f := a.plainly(i, off, had); n != m || e != f {
		a.t.Fatalf("Write(%d, %d, %d bytes): %d, %d, want %d, %d", i, off, len(data), n, e, m, f)
	}
	if !bytes.Equal(data, had) {
		a.t.Fatalf("Write changes its data")
	}
	// What is kept must not be the caller's memory (R3).
	for k := range data {
		data[k] ^= 0xff
	}
	a.look()
}

func (a *all) read(i int, off int64, n int) {
	a.t.Helper()
	got, e := a.s.Read(a.b[i], off, n)
	var want []byte
	f := api.OK
	switch p := a.p[i]; {
	case off < 0 || n < 0:
		f = api.EINVAL
	case off < int64(p.size):
		want = p.bytes[off : int(off)+min(n, p.size-int(off))]
	}
	if !bytes.Equal(got, want) || e != f {
		a.t.Fatalf("Read(%d, %d, %d): %q, %d, want %q, %d", i, off, n, got, e, want, f)
	}
	// Nor may what is answered be the body's memory.
	for k := range got {
		got[k] ^= 0xff
	}
}

func (a *all) cut(i int, size int64) {
	a.t.Helper()
	want := api.OK
	switch p := a.p[i]; {
	case size < 0:
		want = api.EINVAL
	case size > api.MaxFile:
		want = api.EFBIG
	default:
		p.size = int(size)
		clear(p.bytes[size:])
		for k := range p.there {
			p.there[k] = p.there[k] && k*api.Chunk < p.size
		}
	}
	if e := a.s.Cut(a.b[i], size); e != want {
		a.t.Fatalf("Cut(%d, %d): %d, want %d", i, size, e, want)
	}
	a.look()
}

func (a *all) free(i int) {
	a.t.Helper()
	*a.p[i] = plain{}
	a.s.Free(a.b[i])
	a.look()
}

// look holds what the calls answer that change nothing.
func (a *all) look() {
	a.t.Helper()
	used := 0
	for i, b := range a.b {
		p := a.p[i]
		if b.Size() != p.size || b.Chunks() != p.chunks() || !slices.Equal(b.Holes(), p.holes()) {
			a.t.Fatalf("body %d: %d, %d, %v, want %d, %d, %v", i, b.Size(), b.Chunks(), b.Holes(), p.size, p.chunks(), p.holes())
		}
		used += b.Chunks()
	}
	if a.s.Used() != used || used > a.room || a.s.Room() != a.room {
		a.t.Fatalf("Used %d of %d, want %d of %d", a.s.Used(), a.s.Room(), used, a.room)
	}
}

// whole reads all bytes of all bodies.
func (a *all) whole() {
	a.t.Helper()
	for i := range a.b {
		a.read(i, 0, api.MaxFile)
	}
}

// some makes n bytes, none of which is 0.
func some(n int, first byte) []byte {
	data := make([]byte, n)
	for i := range data {
		data[i] = 1 + (first+byte(i%251))%255
	}
	return data
}

// state holds what a body and its store tell.
func state(t *testing.T, s *Store, b *Body, size, chunks, used int, holes ...int) {
	t.Helper()
	if b.Size() != size || b.Chunks() != chunks || s.Used() != used || !slices.Equal(b.Holes(), holes) {
		t.Errorf("size %d, chunks %d, used %d, holes %v, want %d, %d, %d, %v", b.Size(), b.Chunks(), s.Used(), b.Holes(), size, chunks, used, holes)
	}
}

// wrote holds what a writing comes to.
func wrote(t *testing.T, s *Store, b *Body, off int64, data string, n int, e api.Errno) {
	t.Helper()
	if m, f := s.Write(b, off, []byte(data)); m != n || f != e {
		t.Errorf("Write(%d, %q): %d, %d, want %d, %d", off, data, m, f, n, e)
	}
}

// reads holds what a reading comes to.
func reads(t *testing.T, s *Store, b *Body, off int64, n int, want string, e api.Errno) {
	t.Helper()
	if got, f := s.Read(b, off, n); string(got) != want || f != e {
		t.Errorf("Read(%d, %d): %q, %d, want %q, %d", off, n, got, f, want, e)
	}
}

// cuts holds what a cutting comes to.
func cuts(t *testing.T, s *Store, b *Body, size int64, want api.Errno) {
	t.Helper()
	if e := s.Cut(b, size); e != want {
		t.Errorf("Cut(%d): %d, want %d", size, e, want)
	}
}

// TestNew: P3.1: rooms in range and out of it.
func TestNew(t *testing.T) {
	for _, room := range []int{0, 1, 4, 65535, 65536} {
		if s := New(room); s == nil || s.Room() != room || s.Used() != 0 {
			t.Errorf("New(%d): %v", room, s)
		}
	}
	for _, room := range []int{-1, -65536, 65537, math.MaxInt, math.MinInt} {
		if s := New(room); s != nil {
			t.Errorf("New(%d): %v, want nil", room, s)
		}
	}
}

// TestBody: P3.1: a new body is empty and uses nothing, also when others don't.
func TestBody(t *testing.T) {
	s := New(3)
	b := s.Body()
	state(t, s, b, 0, 0, 0)
	reads(t, s, b, 0, 9, "", api.OK)
	wrote(t, s, b, 0, "ab", 2, api.OK)
	c := s.Body()
	state(t, s, c, 0, 0, 1)
	state(t, s, b, 2, 1, 1)
	reads(t, s, c, 0, 9, "", api.OK)
}

// TestNone: P3.1, R1: what New answers for a room out of range has nothing, holds nothing and doesn't panic.
func TestNone(t *testing.T) {
	s := New(-1)
	if s.Used() != 0 || s.Room() != 0 {
		t.Errorf("Used %d, Room %d", s.Used(), s.Room())
	}
	b := s.Body()
	state(t, s, b, 0, 0, 0)
	wrote(t, s, b, 0, "x", 0, api.EINVAL)
	reads(t, s, b, 0, 1, "", api.EINVAL)
	cuts(t, s, b, 1, api.EINVAL)
	s.Free(b)
	state(t, s, b, 0, 0, 0)
}

// TestStrange: P3.4, R1: a body that isn't the store's is neither written nor counted, and nothing panics.
func TestStrange(t *testing.T) {
	s, other := New(2), New(2)
	b := other.Body()
	wrote(t, other, b, 0, "ab", 2, api.OK)
	for _, x := range []*Body{nil, {}, b} {
		wrote(t, s, x, 0, "x", 0, api.EINVAL)
		wrote(t, s, x, 0, "", 0, api.EINVAL)
		reads(t, s, x, 0, 1, "", api.EINVAL)
		cuts(t, s, x, 0, api.EINVAL)
		s.Free(x)
	}
	state(t, other, b, 2, 1, 1)
	reads(t, other, b, 0, 9, "ab", api.OK)
	if s.Used() != 0 {
		t.Errorf("Used: %d", s.Used())
	}
}

// TestWrite: P3.2: what is written, what it takes and how it reads.
func TestWrite(t *testing.T) {
	for _, c := range []struct {
		off    int64
		n      int
		chunks int
		holes  []int
	}{
		{0, 1, 1, nil},
		{0, 15, 1, nil},
		{0, 16, 1, nil},
		{0, 17, 2, nil},
		{15, 1, 1, nil},
		{15, 2, 2, nil},
		{16, 1, 1, []int{0}},
		{16, 16, 1, []int{0}},
		{31, 18, 3, []int{0}},
		{100, 40, 3, []int{0, 1, 2, 3, 4, 5}},
		{0, 65536, 4096, nil},
	} {
		s := New(5000)
		b := s.Body()
		data := some(c.n, 7)
		if n, e := s.Write(b, c.off, data); n != c.n || e != api.OK {
			t.Errorf("Write(%d, %d bytes): %d, %d", c.off, c.n, n, e)
		}
		state(t, s, b, int(c.off)+c.n, c.chunks, c.chunks, c.holes...)
		reads(t, s, b, c.off, c.n, string(data), api.OK)
		reads(t, s, b, 0, api.MaxFile, strings.Repeat("\x00", int(c.off))+string(data), api.OK)
	}
}

// TestWriteOver: P3.2: bytes that are there already, the size and the chunks stay but for what is written.
func TestWriteOver(t *testing.T) {
	s := New(3)
	b := s.Body()
	wrote(t, s, b, 0, "0123456789abcdefghij", 20, api.OK)
	wrote(t, s, b, 3, "XY", 2, api.OK)
	wrote(t, s, b, 15, "Z\x00", 2, api.OK)
	state(t, s, b, 20, 2, 2)
	reads(t, s, b, 0, 99, "012XY56789abcdeZ\x00hij", api.OK)
	wrote(t, s, b, 19, "KL", 2, api.OK)
	state(t, s, b, 21, 2, 2)
	reads(t, s, b, 16, 99, "\x00hiKL", api.OK)
}

// TestWriteZeros: P3.2: bytes that are 0 are written as any others, in chunks of their own.
func TestWriteZeros(t *testing.T) {
	s := New(2)
	b := s.Body()
	wrote(t, s, b, 16, strings.Repeat("\x00", 16), 16, api.OK)
	state(t, s, b, 32, 1, 1, 0)
	wrote(t, s, b, 40, "\x00", 1, api.OK)
	state(t, s, b, 41, 2, 2, 0)
	wrote(t, s, b, 0, "\x00", 0, api.ENOSPC)
}

// TestWriteErrors: P3.2: errors in their order, and nothing changed.
func TestWriteErrors(t *testing.T) {
	s := New(1)
	b := s.Body()
	wrote(t, s, b, 5, "ab", 2, api.OK)
	for _, c := range []struct {
		off  int64
		data string
		want api.Errno
	}{
		{-1, "x", api.EINVAL},
		{-1, "", api.EINVAL},
		{math.MinInt64, "x", api.EINVAL},
		{0, "", api.OK},
		{7, "", api.OK},
		{16, "", api.OK},
		{65535, "", api.OK},
		{65536, "", api.OK},
		{math.MaxInt64, "", api.OK},
		{65536, "x", api.EFBIG},
		{65537, "x", api.EFBIG},
		{1 << 32, "x", api.EFBIG},
		{1<<32 + 5, "x", api.EFBIG},
		{math.MaxInt64, "xy", api.EFBIG},
		{16, "x", api.ENOSPC},
		{65535, "x", api.ENOSPC},
	} {
		wrote(t, s, b, c.off, c.data, 0, c.want)
		state(t, s, b, 7, 1, 1)
		reads(t, s, b, 0, 99, "\x00\x00\x00\x00\x00ab", api.OK)
	}
	if n, e := s.Write(b, 3, nil); n != 0 || e != api.OK {
		t.Errorf("nil: %d, %d", n, e)
	}
	state(t, s, b, 7, 1, 1)
}

// TestWriteEnd: P3.2: writing ends at MaxFile.
func TestWriteEnd(t *testing.T) {
	s := New(10)
	b := s.Body()
	wrote(t, s, b, 65535, "xyz", 1, api.OK)
	holes := b.Holes()
	if b.Size() != 65536 || b.Chunks() != 1 || len(holes) != 4095 || holes[4094] != 4094 {
		t.Errorf("%d, %d, %d holes", b.Size(), b.Chunks(), len(holes))
	}
	wrote(t, s, b, 65500, strings.Repeat("q", 100), 36, api.OK)
	if b.Size() != 65536 || b.Chunks() != 3 || s.Used() != 3 {
		t.Errorf("%d, %d, %d", b.Size(), b.Chunks(), s.Used())
	}
	reads(t, s, b, 65499, 100, "\x00"+strings.Repeat("q", 36), api.OK)
	full := New(4097)
	c := full.Body()
	wrote(t, full, c, 0, strings.Repeat("w", 70000), 65536, api.OK)
	state(t, full, c, 65536, 4096, 4096)
	wrote(t, full, c, 1, strings.Repeat("v", 65536), 65535, api.OK)
	state(t, full, c, 65536, 4096, 4096)
	reads(t, full, c, 0, 70000, "w"+strings.Repeat("v", 65535), api.OK)
}

// TestWriteRoom: P3.2: writing ends before the chunk for which there is no room.
func TestWriteRoom(t *testing.T) {
	for _, c := range []struct {
		room int
		off  int64
		n    int
		want int
	}{
		{1, 0, 40, 16},
		{1, 5, 40, 11},
		{1, 15, 40, 1},
		{1, 16, 40, 16},
		{2, 0, 40, 32},
		{2, 30, 40, 18},
		{3, 0, 40, 40},
		{3, 0, 65536, 48},
	} {
		s := New(c.room)
		b := s.Body()
		wrote(t, s, b, c.off, strings.Repeat("x", c.n), c.want, api.OK)
		if b.Size() != int(c.off)+c.want || s.Used() > c.room || b.Chunks() != s.Used() {
			t.Errorf("room %d: size %d, used %d", c.room, b.Size(), s.Used())
		}
		reads(t, s, b, c.off, 70000, strings.Repeat("x", c.want), api.OK)
	}
}

// TestWriteFull: P3.2: with no room left, chunks that are there are written, up to the first one that isn't.
func TestWriteFull(t *testing.T) {
	s := New(3)
	b, c := s.Body(), s.Body()
	wrote(t, s, b, 16, strings.Repeat("b", 16), 16, api.OK)
	wrote(t, s, b, 48, strings.Repeat("d", 16), 16, api.OK)
	wrote(t, s, c, 0, "c", 1, api.OK)
	wrote(t, s, b, 20, strings.Repeat("B", 40), 12, api.OK)
	wrote(t, s, b, 15, "12", 0, api.ENOSPC)
	wrote(t, s, b, 47, "12", 0, api.ENOSPC)
	wrote(t, s, b, 64, "1", 0, api.ENOSPC)
	state(t, s, b, 64, 2, 3, 0, 2)
	wrote(t, s, c, 10, strings.Repeat("C", 40), 6, api.OK)
	state(t, s, c, 16, 1, 3)
	reads(t, s, b, 0, 99, strings.Repeat("\x00", 16)+"bbbb"+strings.Repeat("B", 12)+strings.Repeat("\x00", 16)+strings.Repeat("d", 16), api.OK)
	reads(t, s, c, 0, 99, "c"+strings.Repeat("\x00", 9)+"CCCCCC", api.OK)
}

// TestNoRoom: P3.2, P3.3: in a room of 0 nothing is written, but a size can be set.
func TestNoRoom(t *testing.T) {
	s := New(0)
	b := s.Body()
	wrote(t, s, b, 0, "x", 0, api.ENOSPC)
	wrote(t, s, b, 65535, "x", 0, api.ENOSPC)
	wrote(t, s, b, 65536, "x", 0, api.EFBIG)
	wrote(t, s, b, 0, "", 0, api.OK)
	state(t, s, b, 0, 0, 0)
	cuts(t, s, b, 33, api.OK)
	state(t, s, b, 33, 0, 0, 0, 1, 2)
	reads(t, s, b, 30, 9, "\x00\x00\x00", api.OK)
	wrote(t, s, b, 0, "x", 0, api.ENOSPC)
	s.Free(b)
	state(t, s, b, 0, 0, 0)
}

// TestMaxRoom: P3.2, P3.4: the greatest room is filled by the bodies that fit, and no more.
func TestMaxRoom(t *testing.T) {
	s := New(api.MaxRoom)
	data := some(api.MaxFile, 3)
	var bodies []*Body
	for range api.MaxRoom * api.Chunk / api.MaxFile {
		b := s.Body()
		if n, e := s.Write(b, 0, data); n != api.MaxFile || e != api.OK {
			t.Fatalf("Write: %d, %d", n, e)
		}
		bodies = append(bodies, b)
	}
	c := s.Body()
	wrote(t, s, c, 0, "x", 0, api.ENOSPC)
	state(t, s, c, 0, 0, api.MaxRoom)
	s.Free(bodies[0])
	wrote(t, s, c, 0, "x", 1, api.OK)
	state(t, s, c, 1, 1, api.MaxRoom-api.MaxFile/api.Chunk+1)
	reads(t, s, bodies[1], 0, api.MaxFile, string(data), api.OK)
}

// TestRead: P3.3: in chunks, in holes, over both, at the size and past it.
func TestRead(t *testing.T) {
	s := New(2)
	b := s.Body()
	wrote(t, s, b, 18, "abcdef", 6, api.OK)
	wrote(t, s, b, 62, "yz", 2, api.OK)
	cuts(t, s, b, 100, api.OK)
	zeros := func(n int) string { return strings.Repeat("\x00", n) }
	for _, c := range []struct {
		off  int64
		n    int
		want string
	}{
		{0, 0, ""},
		{18, 0, ""},
		{18, 6, "abcdef"},
		{20, 2, "cd"},
		{16, 4, "\x00\x00ab"},
		{0, 5, zeros(5)},
		{14, 5, zeros(4) + "a"},
		{22, 20, "ef" + zeros(18)},
		{33, 10, zeros(10)},
		{40, 23, zeros(22) + "y"},
		{63, 3, "z\x00\x00"},
		{90, 10, zeros(10)},
		{90, 11, zeros(10)},
		{99, math.MaxInt, "\x00"},
		{100, 1, ""},
		{100, 0, ""},
		{101, 5, ""},
		{65536, 5, ""},
		{1 << 32, 5, ""},
		{math.MaxInt64, math.MaxInt, ""},
		{0, math.MaxInt, zeros(18) + "abcdef" + zeros(38) + "yz" + zeros(36)},
	} {
		reads(t, s, b, c.off, c.n, c.want, api.OK)
	}
	for _, c := range []struct {
		off int64
		n   int
	}{{-1, 0}, {-1, 5}, {0, -1}, {100, -1}, {-1, -1}, {math.MinInt64, 5}, {5, math.MinInt}, {math.MaxInt64, -1}} {
		reads(t, s, b, c.off, c.n, "", api.EINVAL)
	}
	state(t, s, b, 100, 2, 2, 0, 2, 4, 5, 6)
}

// TestCut: P3.3: inside a chunk, at its begin, at its end, above the size, and again up.
func TestCut(t *testing.T) {
	text := "0123456789abcdefghijklmnopqrstuvwxyzABCD"
	for _, c := range []struct {
		size   int64
		chunks int
		holes  []int
	}{
		{0, 0, nil},
		{1, 1, nil},
		{15, 1, nil},
		{16, 1, nil},
		{17, 2, nil},
		{20, 2, nil},
		{31, 2, nil},
		{32, 2, nil},
		{33, 3, nil},
		{39, 3, nil},
		{40, 3, nil},
		{41, 3, nil},
		{48, 3, nil},
		{49, 3, []int{3}},
		{64, 3, []int{3}},
		{80, 3, []int{3, 4}},
		{81, 3, []int{3, 4, 5}},
	} {
		s := New(3)
		b := s.Body()
		wrote(t, s, b, 0, text, 40, api.OK)
		cuts(t, s, b, c.size, api.OK)
		state(t, s, b, int(c.size), c.chunks, c.chunks, c.holes...)
		kept := text[:min(len(text), int(c.size))]
		reads(t, s, b, 0, 99, kept+strings.Repeat("\x00", int(c.size)-len(kept)), api.OK)
		cuts(t, s, b, 90, api.OK)
		reads(t, s, b, 0, 99, kept+strings.Repeat("\x00", 90-len(kept)), api.OK)
		if b.Chunks() != c.chunks || s.Used() != c.chunks {
			t.Errorf("Cut(%d), Cut(90): %d chunks, %d used", c.size, b.Chunks(), s.Used())
		}
	}
}

// TestCutErrors: P3.3: sizes out of range, and nothing changed; the greatest size, and down from it.
func TestCutErrors(t *testing.T) {
	s := New(2)
	b := s.Body()
	wrote(t, s, b, 3, "ab", 2, api.OK)
	cuts(t, s, b, -1, api.EINVAL)
	cuts(t, s, b, math.MinInt64, api.EINVAL)
	cuts(t, s, b, 65537, api.EFBIG)
	cuts(t, s, b, 1<<32, api.EFBIG)
	cuts(t, s, b, math.MaxInt64, api.EFBIG)
	state(t, s, b, 5, 1, 1)
	reads(t, s, b, 0, 9, "\x00\x00\x00ab", api.OK)
	cuts(t, s, b, 65536, api.OK)
	if b.Size() != 65536 || b.Chunks() != 1 || s.Used() != 1 || len(b.Holes()) != 4095 {
		t.Errorf("%d, %d, %d, %d holes", b.Size(), b.Chunks(), s.Used(), len(b.Holes()))
	}
	wrote(t, s, b, 65530, "0123456789", 6, api.OK)
	reads(t, s, b, 65528, 99, "\x00\x00012345", api.OK)
	cuts(t, s, b, 65535, api.OK)
	cuts(t, s, b, 65536, api.OK)
	reads(t, s, b, 65528, 99, "\x00\x0001234\x00", api.OK)
	cuts(t, s, b, 65520, api.OK)
	state(t, s, b, 65520, 1, 1, b.Holes()...)
	cuts(t, s, b, 4, api.OK)
	state(t, s, b, 4, 1, 1)
	reads(t, s, b, 0, 9, "\x00\x00\x00a", api.OK)
}

// TestCutBytes: P3.3, P3.4: what was cut off stays 0 when the size grows by a writing behind it.
func TestCutBytes(t *testing.T) {
	s := New(3)
	b := s.Body()
	wrote(t, s, b, 0, strings.Repeat("a", 48), 48, api.OK)
	cuts(t, s, b, 20, api.OK)
	wrote(t, s, b, 25, "x", 1, api.OK)
	reads(t, s, b, 18, 99, "aa\x00\x00\x00\x00\x00x", api.OK)
	wrote(t, s, b, 34, "y", 1, api.OK)
	reads(t, s, b, 25, 99, "x"+strings.Repeat("\x00", 8)+"y", api.OK)
	state(t, s, b, 35, 3, 3)
	cuts(t, s, b, 0, api.OK)
	wrote(t, s, b, 2, "z", 1, api.OK)
	reads(t, s, b, 0, 99, "\x00\x00z", api.OK)
}

// TestFree: P3.3: a body that is freed is as a new one, and can be written again.
func TestFree(t *testing.T) {
	s := New(4)
	b, c := s.Body(), s.Body()
	wrote(t, s, b, 0, strings.Repeat("b", 40), 40, api.OK)
	wrote(t, s, c, 20, "cc", 2, api.OK)
	cuts(t, s, b, 100, api.OK)
	s.Free(b)
	state(t, s, b, 0, 0, 1)
	reads(t, s, b, 0, 99, "", api.OK)
	s.Free(b)
	state(t, s, b, 0, 0, 1)
	state(t, s, c, 22, 1, 1, 0)
	wrote(t, s, b, 20, strings.Repeat("B", 60), 44, api.OK)
	state(t, s, b, 64, 3, 4, 0)
	reads(t, s, b, 16, 9, "\x00\x00\x00\x00BBBBB", api.OK)
	reads(t, s, c, 16, 9, "\x00\x00\x00\x00cc", api.OK)
	s.Free(c)
	s.Free(b)
	state(t, s, b, 0, 0, 0)
}

// TestHoles: P3.1: at the start, in the middle and at the end, and filled.
func TestHoles(t *testing.T) {
	s := New(9)
	b := s.Body()
	wrote(t, s, b, 40, "x", 1, api.OK)
	state(t, s, b, 41, 1, 1, 0, 1)
	wrote(t, s, b, 100, "x", 1, api.OK)
	state(t, s, b, 101, 2, 2, 0, 1, 3, 4, 5)
	cuts(t, s, b, 128, api.OK)
	state(t, s, b, 128, 2, 2, 0, 1, 3, 4, 5, 7)
	cuts(t, s, b, 129, api.OK)
	state(t, s, b, 129, 2, 2, 0, 1, 3, 4, 5, 7, 8)
	wrote(t, s, b, 0, "x", 1, api.OK)
	wrote(t, s, b, 64, "x", 1, api.OK)
	wrote(t, s, b, 128, "x", 1, api.OK)
	state(t, s, b, 129, 5, 5, 1, 3, 5, 7)
	holes := b.Holes()
	holes[0] = 99
	state(t, s, b, 129, 5, 5, 1, 3, 5, 7)
}

// TestBodies: P3.4: the chunks of several bodies come and go in one room; what one gives back another one gets.
func TestBodies(t *testing.T) {
	a := newAll(t, 6, 3)
	a.write(0, 0, some(40, 1))
	a.write(1, 100, some(40, 2))
	a.write(2, 0, some(1, 3))
	a.cut(0, 20)
	a.write(2, 0, some(40, 4))
	a.whole()
	a.free(1)
	a.write(2, 30, some(200, 5))
	a.write(0, 30, some(9, 6))
	a.whole()
	a.cut(2, 0)
	a.write(0, 65530, some(9, 7))
	a.write(1, 0, some(99, 8))
	a.whole()
	for i := range a.b {
		a.free(i)
	}
	a.whole()
}

// TestApart: P3.1, P3.4: stores are apart from each other.
func TestApart(t *testing.T) {
	s, other := New(1), New(2)
	b, c := s.Body(), other.Body()
	wrote(t, s, b, 0, "b", 1, api.OK)
	wrote(t, other, c, 0, "c", 1, api.OK)
	wrote(t, other, c, 16, "C", 1, api.OK)
	state(t, s, b, 1, 1, 1)
	state(t, other, c, 17, 2, 2)
	other.Free(c)
	state(t, s, b, 1, 1, 1)
	reads(t, s, b, 0, 9, "b", api.OK)
}

// TestExample: P3.1 to P3.3: the chapter's examples.
func TestExample(t *testing.T) {
	s := New(2)
	b := s.Body()
	wrote(t, s, b, 20, "ab", 2, api.OK)
	state(t, s, b, 22, 1, 1, 0)
	reads(t, s, b, 18, 9, "\x00\x00ab", api.OK)
	s = New(2)
	b = s.Body()
	wrote(t, s, b, 30, strings.Repeat("x", 40), 18, api.OK)
	wrote(t, s, b, 0, "x", 0, api.ENOSPC)
}

// TestEach: P3.2 to P3.4: every list of four calls out of a few, on two bodies of a small room.
func TestEach(t *testing.T) {
	calls := []func(*all){
		func(a *all) { a.write(0, 0, some(16, 1)) },
		func(a *all) { a.write(0, 14, some(20, 2)) },
		func(a *all) { a.write(0, 40, some(1, 3)) },
		func(a *all) { a.write(1, 5, some(30, 4)) },
		func(a *all) { a.write(1, -1, nil) },
		func(a *all) { a.cut(0, 17) },
		func(a *all) { a.cut(0, 33) },
		func(a *all) { a.cut(1, 16) },
		func(a *all) { a.free(0) },
	}
	const long = 4
	lists := 1
	for range long {
		lists *= len(calls)
	}
	for list := range lists {
		a := newAll(t, 3, 2)
		for rest, i := list, 0; i < long; rest, i = rest/len(calls), i+1 {
			calls[rest%len(calls)](a)
		}
		a.whole()
	}
}

// near makes a place that is often close to a limit, and now and then out of range.
func near(r *rand.Rand, span int64) int64 {
	switch r.IntN(10) {
	case 0:
		return []int64{-1, 0, 15, 16, 17, 65519, 65520, 65535, 65536, 65537, math.MaxInt64, math.MinInt64}[r.IntN(12)]
	case 1:
		return api.MaxFile - r.Int64N(40)
	case 2:
		return r.Int64N(span/api.Chunk+1) * api.Chunk
	}
	return r.Int64N(span)
}

// TestMany: P3.1 to P3.4: several bodies are written, read, cut and freed many times, in rooms of many sizes.
func TestMany(t *testing.T) {
	for seed := range uint64(40) {
		r := rand.New(rand.NewPCG(seed, 3))
		a := newAll(t, r.IntN(1+int(seed)*2), 1+r.IntN(4))
		span := 1 + r.Int64N(400)
		for range 400 {
			i := r.IntN(len(a.b))
			switch r.IntN(10) {
			case 0:
				a.free(i)
			case 1, 2:
				a.cut(i, near(r, span))
			case 3, 4, 5:
				a.read(i, near(r, span), r.IntN(100)-5)
			default:
				a.write(i, near(r, span), some(r.IntN(60), byte(r.IntN(256))))
			}
		}
		a.whole()
	}
}

// TestSame: R4: the same calls answer the same.
func TestSame(t *testing.T) {
	told := func() string {
		s := New(20)
		b := s.Body()
		var out []byte
		for i := range 50 {
			n, e := s.Write(b, int64(i*37%500), some(i, byte(i)))
			out = append(out, byte(n), byte(e), byte(s.Used()))
			s.Cut(b, int64(i*53%600))
			data, _ := s.Read(b, 0, 600)
			out = append(out, data...)
			for _, hole := range b.Holes() {
				out = append(out, byte(hole))
			}
		}
		return string(out)
	}
	first := told()
	for range 5 {
		if told() != first {
			t.Fatalf("the same calls answer otherwise")
		}
	}
}
