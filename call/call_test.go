package call

import (
	"bytes"
	"math"
	"math/rand/v2"
	"slices"
	"strings"
	"testing"

	"veneer/api"
)

// zero is what nine zeros, or fewer, decode to.
var zero = api.Call{Op: api.OpOpen, Fd: -4, N: -256, Off: -256}

// TestExamples: P8.1 and P8.2: the chapter's examples.
func TestExamples(t *testing.T) {
	if calls := decodes(t, nil); len(calls) != 0 {
		t.Fatalf("no bytes: %#v", calls)
	}
	if calls := decodes(t, []byte{20}); !slices.Equal(calls, []api.Call{zero}) {
		t.Fatalf("20: %#v", calls)
	}
	// N and Off are 1*256 + 0 - 256 there.
	b := []byte{1, 4, 0, 1, 0, 1, 0, 1, 97, 0}
	c := api.Call{Op: api.OpClose, Fd: 0, A: "a"}
	if calls := decodes(t, b); !slices.Equal(calls, []api.Call{c}) {
		t.Fatalf("%v: %#v", b, calls)
	}
	if got, e := Encode(c); !bytes.Equal(got, b) || e != api.OK {
		t.Fatalf("Encode(%#v): %v, %d", c, got, e)
	}
}

// TestNone: P8.1 and P8.2: no calls are no bytes, and no bytes are no calls.
func TestNone(t *testing.T) {
	for _, l := range [][]api.Call{nil, {}, numberedList(3)[:0]} {
		if b, e := Script(l); len(b) != 0 || e != api.OK {
			t.Fatalf("Script of no calls: %v, %d", b, e)
		}
	}
	for _, b := range [][]byte{nil, {}, []byte("abc")[:0]} {
		if calls := Decode(b); len(calls) != 0 {
			t.Fatalf("Decode of no bytes: %#v", calls)
		}
	}
}

// TestLayout: P8.1: each field stands at its own place, numbers of two bytes with the greater one first.
func TestLayout(t *testing.T) {
	for _, x := range []struct {
		c    api.Call
		want []byte
	}{
		{zero, make([]byte, 9)},
		{api.Call{Op: 20, Fd: 35, Flag: 63, N: 65279, Off: 65279}, []byte{19, 39, 63, 255, 255, 255, 255, 0, 0}},
		{api.Call{Op: 2, Fd: -2, Flag: 3, N: 4*256 + 5 - 256, Off: 6*256 + 7 - 256, A: "\x00\xff", B: "é"}, []byte{1, 2, 3, 4, 5, 6, 7, 2, 0, 255, 2, 0xc3, 0xa9}},
		{api.Call{Op: 1, B: "b"}, []byte{0, 4, 0, 1, 0, 1, 0, 0, 1, 'b'}},
		{api.Call{Op: 1, N: -1, Off: 255}, []byte{0, 4, 0, 0, 255, 1, 255, 0, 0}},
	} {
		if b, e := Encode(x.c); !bytes.Equal(b, x.want) || e != api.OK {
			t.Fatalf("Encode(%#v): %v, %d, want %v", x.c, b, e, x.want)
		}
		encodes(t, x.c, true)
	}
}

// TestFields: P8.1: every field at all its values, or those near its ends, and one beyond each.
func TestFields(t *testing.T) {
	for _, f := range fields() {
		for _, base := range []api.Call{zero, numbered(77), {Op: 20, Fd: 35, Flag: 63, N: 65279, Off: 65279, A: everyByte(0, 63), B: everyByte(63, 63)}} {
			for n := f.least - 3; n <= f.most+3; n++ {
				if f.bytes == 2 && n == f.least+300 {
					n = f.most - 300 // what is between is held by TestNumbers
				}
				c := base
				f.set(&c, n)
				encodes(t, c, n >= f.least && n <= f.most)
			}
		}
	}
}

// TestNumbers: P8.1 and P8.2: all values of N and Off, there and back.
func TestNumbers(t *testing.T) {
	for n := int64(-256); n <= 65279; n++ {
		c := api.Call{Op: 5, N: n, Off: 65023 - n}
		b, e := Encode(c)
		if e != api.OK || !bytes.Equal(b, plainBytes(c)) {
			t.Fatalf("Encode(%#v): %v, %d", c, b, e)
		}
		if calls := Decode(b); !slices.Equal(calls, []api.Call{c}) {
			t.Fatalf("Decode(%v): %#v, want %#v", b, calls, c)
		}
	}
}

// TestFar: P8.1: numbers far beyond, whose low bits would be valid, are not valid in any field.
func TestFar(t *testing.T) {
	for _, f := range fields() {
		for _, low := range []int64{f.least, 0, 1, f.most} {
			for _, far := range []int64{1 << 17, 1 << 24, 1 << 31, 1 << 32, 1 << 40, 1 << 62, math.MinInt64} {
				for _, n := range []int64{low + far, low - far} {
					c := numbered(8)
					f.set(&c, n)
					encodes(t, c, false)
				}
			}
		}
		for _, n := range []int64{math.MinInt64, math.MinInt64 + 1, math.MinInt32, math.MaxInt32, math.MaxUint32, math.MaxInt64 - 1, math.MaxInt64} {
			c := zero
			f.set(&c, n)
			encodes(t, c, false)
		}
		for step := f.most - f.least + 1; step < 1<<20; step += f.most - f.least + 1 {
			c := zero
			f.set(&c, f.least+step)
			encodes(t, c, false)
			f.set(&c, f.most-step)
			encodes(t, c, false)
		}
	}
}

// TestSmallFar: P8.1: as much holds for a byte's worth beyond, in the fields of one byte.
func TestSmallFar(t *testing.T) {
	for _, f := range fields()[:3] {
		for n := f.least - 600; n <= f.most+600; n++ {
			c := numbered(3)
			f.set(&c, n)
			encodes(t, c, n >= f.least && n <= f.most)
		}
	}
}

// TestTexts: P8.1 and P8.2: A and B of all lengths up to 63, and beyond, of bytes of every value.
func TestTexts(t *testing.T) {
	lengths := []int{65, 100, 127, 128, 255, 256, 257, 320, 512, 65536, 1 << 20}
	for n := range 65 {
		lengths = append(lengths, n)
	}
	for _, n := range lengths {
		for _, first := range []int{0, 63, 126, 189, 220} {
			long := everyByte(first, n)
			for _, other := range []string{"", "x", everyByte(200, 63)} {
				encodes(t, api.Call{Op: 15, A: long, B: other}, n <= 63)
				encodes(t, api.Call{Op: 15, A: other, B: long}, n <= 63)
			}
			encodes(t, api.Call{Op: 15, A: long, B: long}, n <= 63)
		}
	}
	for v := range 256 {
		text := string([]byte{byte(v)})
		encodes(t, api.Call{Op: 14, A: text, B: "-" + text}, true)
		encodes(t, api.Call{Op: 14, A: strings.Repeat(text, 63), B: text}, true)
		encodes(t, api.Call{Op: 14, A: text, B: strings.Repeat(text, 64)}, false)
	}
}

// TestRunes: P8.1: lengths are bytes, not characters.
func TestRunes(t *testing.T) {
	encodes(t, api.Call{Op: 1, A: strings.Repeat("é", 31) + "e"}, true)
	encodes(t, api.Call{Op: 1, A: strings.Repeat("é", 32)}, false)
	encodes(t, api.Call{Op: 1, B: strings.Repeat("世", 21)}, true)
	encodes(t, api.Call{Op: 1, B: strings.Repeat("世", 21) + "e"}, false)
}

// TestMany: P8.1 and P8.3: scripts of all numbers of calls up to 200, and of more.
func TestMany(t *testing.T) {
	for n := range 201 {
		scripts(t, numberedList(n), true)
	}
	for _, n := range []int{201, 202, 256, 400, 456, 65536, 65537} {
		scripts(t, numberedList(n), false)
	}
	full := slices.Repeat([]api.Call{{Op: 20, A: everyByte(0, 63), B: everyByte(193, 63)}}, 200)
	scripts(t, full, true)
	scripts(t, append(full, zero), false)
}

// badCalls are calls that aren't valid, for each reason.
func badCalls() []api.Call {
	bad := []api.Call{{}}
	for _, f := range fields() {
		for _, n := range []int64{f.least - 1, f.most + 1} {
			c := zero
			f.set(&c, n)
			bad = append(bad, c)
		}
	}
	return append(bad, api.Call{Op: 1, A: everyByte(0, 64)}, api.Call{Op: 1, B: everyByte(0, 64)})
}

// TestOneBad: P8.1: one call that isn't valid, first, last or between, and there are no bytes.
func TestOneBad(t *testing.T) {
	for _, bad := range badCalls() {
		for _, n := range []int{1, 2, 3, 7, 199, 200} {
			for _, at := range []int{0, 1, n / 2, n - 2, n - 1} {
				if at < 0 || at >= n {
					continue
				}
				l := numberedList(n)
				l[at] = bad
				scripts(t, l, false)
			}
		}
		// Too many calls and one that isn't valid are the same error.
		scripts(t, append(numberedList(200), bad), false)
		scripts(t, append([]api.Call{bad}, numberedList(200)...), false)
	}
}

// TestByteValues: P8.2: bytes of every value for each field are taken modulo the number of its values.
func TestByteValues(t *testing.T) {
	for v := range 256 {
		for _, other := range []byte{0, 1, 20, 40, 64, 200, 255} {
			for at := range 7 {
				b := append(bytes.Repeat([]byte{other}, 7), 0, 0)
				b[at] = byte(v)
				if calls := decodes(t, b); len(calls) != 1 {
					t.Fatalf("Decode(%v): %d calls", b, len(calls))
				}
			}
		}
		c := Decode([]byte{byte(v), byte(v), byte(v), byte(v), 0, 0, byte(v), 0, 0})[0]
		want := api.Call{Op: v%20 + 1, Fd: v%40 - 4, Flag: v % 64, N: int64(v)*256 - 256, Off: int64(v) - 256}
		if c != want {
			t.Fatalf("%d in each field: %#v, want %#v", v, c, want)
		}
	}
}

// TestLengthValues: P8.2: as much for the lengths: the text is as long as the rest by 64, and the next call begins behind it.
func TestLengthValues(t *testing.T) {
	head := []byte{0, 4, 0, 1, 0, 1, 0}
	for v := range 256 {
		text := everyByte(v, v%64)
		a := slices.Concat(head, []byte{byte(v)}, []byte(text), []byte{0}, plainBytes(numbered(v)))
		if calls := decodes(t, a); !slices.Equal(calls, []api.Call{{Op: 1, A: text}, numbered(v)}) {
			t.Fatalf("length %d of A: %#v", v, calls)
		}
		b := slices.Concat(head, []byte{2, 'x', 'y', byte(v)}, []byte(text), plainBytes(numbered(v)))
		if calls := decodes(t, b); !slices.Equal(calls, []api.Call{{Op: 1, A: "xy", B: text}, numbered(v)}) {
			t.Fatalf("length %d of B: %#v", v, calls)
		}
	}
}

// TestShort: P8.2: bytes that end within a call, at each place of it, also within A and B: what is missing is 0.
func TestShort(t *testing.T) {
	calls := []api.Call{
		{Op: 20, Fd: 35, Flag: 63, N: 65279, Off: 65279, A: everyByte(1, 63), B: everyByte(100, 63)},
		{Op: 20, Fd: 35, Flag: 63, N: 65278, Off: 65277, A: "abc", B: "de"},
		{Op: 20, Fd: 35, Flag: 63, N: 300, Off: 1, B: "xyz"},
		{Op: 7, Fd: 1, Flag: 2, N: 300, Off: 1, A: "\x00\x00", B: "\x00"},
		zero,
	}
	for _, before := range [][]api.Call{nil, {zero}, numberedList(5)} {
		head, _ := plainScript(before)
		for _, c := range calls {
			whole := plainBytes(c)
			for n := 1; n <= len(whole); n++ {
				got := decodes(t, slices.Concat(head, whole[:n]))
				if len(got) != len(before)+1 || !slices.Equal(got[:len(before)], before) {
					t.Fatalf("%d of %d bytes: %#v", n, len(whole), got)
				}
			}
		}
	}
}

// TestShortText: P8.2: a text that is cut short keeps its length, with zeros at its end.
func TestShortText(t *testing.T) {
	head := []byte{0, 4, 0, 1, 0, 1, 0}
	for _, x := range []struct {
		tail []byte
		want api.Call
	}{
		{nil, api.Call{Op: 1}},
		{[]byte{3}, api.Call{Op: 1, A: "\x00\x00\x00"}},
		{[]byte{3, 'a'}, api.Call{Op: 1, A: "a\x00\x00"}},
		{[]byte{3, 'a', 'b', 'c'}, api.Call{Op: 1, A: "abc"}},
		{[]byte{1, 'a', 63}, api.Call{Op: 1, A: "a", B: strings.Repeat("\x00", 63)}},
		{[]byte{1, 'a', 255, 'b'}, api.Call{Op: 1, A: "a", B: "b" + strings.Repeat("\x00", 62)}},
		{[]byte{64, 66, 'b'}, api.Call{Op: 1, B: "b\x00"}},
	} {
		b := slices.Concat(head, x.tail)
		if calls := decodes(t, b); !slices.Equal(calls, []api.Call{x.want}) {
			t.Fatalf("Decode(%v): %#v, want %#v", b, calls, x.want)
		}
	}
}

// TestLong: P8.2: of bytes for 200 calls and more, 200 are decoded.
func TestLong(t *testing.T) {
	for _, n := range []int{198, 199, 200, 201, 202, 400, 5000} {
		for _, c := range []api.Call{zero, numbered(63)} {
			one := plainBytes(c)
			b := bytes.Repeat(one, n)
			want := slices.Repeat([]api.Call{c}, min(n, 200))
			if calls := decodes(t, b); !slices.Equal(calls, want) {
				t.Fatalf("%d calls' bytes: %d calls", n, len(calls))
			}
			if calls := decodes(t, append(b, 20)); len(calls) != min(n+1, 200) {
				t.Fatalf("%d calls' bytes and one more: %d calls", n, len(calls))
			}
			if calls := decodes(t, b[:len(b)-1]); len(calls) != min(n, 200) {
				t.Fatalf("%d calls' bytes but one: %d calls", n, len(calls))
			}
		}
	}
	if calls := Decode(make([]byte, 1<<24)); !slices.Equal(calls, slices.Repeat([]api.Call{zero}, 200)) {
		t.Fatalf("many zeros: %d calls", len(calls))
	}
}

// TestHandedIn: P8.2: calls stay as they are when the bytes that they came from change, and nothing is written to the bytes, nor behind them.
func TestHandedIn(t *testing.T) {
	whole, _ := plainScript(numberedList(20))
	for n := range len(whole) {
		b := slices.Clone(whole)
		calls := Decode(b[:n])
		if !bytes.Equal(b, whole) {
			t.Fatalf("%d of %d bytes: Decode wrote to them", n, len(b))
		}
		want := slices.Clone(calls)
		for i, c := range want {
			want[i].A, want[i].B = strings.Clone(c.A), strings.Clone(c.B)
		}
		for i := range b {
			b[i] ^= 0xff
		}
		if !slices.Equal(calls, want) {
			t.Fatalf("%d of %d bytes: the calls changed with them", n, len(b))
		}
	}
}

// spoil changes all that a slice of bytes reaches.
func spoil(b []byte) {
	b = b[:cap(b)]
	for i := range b {
		b[i] ^= 0xff
	}
}

// TestReturned: P8.1 and P8.2: what is returned is new each time: spoilt, it spoils neither what was handed in nor another answer.
func TestReturned(t *testing.T) {
	l := numberedList(30)
	for _, c := range l {
		a := strings.Clone(c.A)
		x, _ := Encode(c)
		y, _ := Encode(c)
		spoil(x)
		z, _ := Encode(c)
		if want := plainBytes(c); !bytes.Equal(y, want) || !bytes.Equal(z, want) || c.A != a {
			t.Fatalf("Encode(%#v): %v, then %v", c, y, z)
		}
	}
	x, _ := Script(l)
	y, _ := Script(l)
	spoil(x)
	z, _ := Script(l)
	if want, _ := plainScript(l); !bytes.Equal(y, want) || !bytes.Equal(z, want) || !slices.Equal(l, numberedList(30)) {
		t.Fatal("Script's answers share memory")
	}
	p := Decode(y)
	q := Decode(y)
	clear(p[:cap(p)])
	if !slices.Equal(q, l) || !slices.Equal(Decode(y), l) {
		t.Fatal("Decode's answers share memory")
	}
}

// TestRandom: P8.2 and P8.3: any bytes decode to valid calls, and their script's bytes to the same calls.
func TestRandom(t *testing.T) {
	r := rand.New(rand.NewPCG(8, 1))
	for range 3000 {
		b := make([]byte, r.IntN(2000))
		for i := range b {
			b[i] = byte(r.Uint32())
		}
		decodes(t, b)
		for i := range b { // small bytes: short texts, and so many calls
			b[i] %= 3
		}
		decodes(t, b)
	}
	for v := range 256 {
		for n := range 300 {
			decodes(t, bytes.Repeat([]byte{byte(v)}, n))
		}
	}
}

// TestRandomCalls: P8.1 and P8.3: the bytes of any script of valid calls decode to them; with a field out of its range there are no bytes.
func TestRandomCalls(t *testing.T) {
	r := rand.New(rand.NewPCG(8, 2))
	for range 2000 {
		l := make([]api.Call, 1+r.IntN(50))
		for i := range l {
			for _, f := range fields() {
				f.set(&l[i], f.least+r.Int64N(f.most-f.least+1))
			}
			l[i].A, l[i].B = everyByte(r.IntN(256), r.IntN(64)), everyByte(r.IntN(256), r.IntN(64))
		}
		scripts(t, l, true)
		f := fields()[r.IntN(5)]
		at := r.IntN(len(l))
		n := int64(r.Uint64())
		f.set(&l[at], n)
		scripts(t, l, n >= f.least && n <= f.most)
	}
}
