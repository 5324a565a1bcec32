package call

import (
	"bytes"
	"slices"
	"strings"
	"testing"

	"veneer/api"
)

// field is a field of a call that is a number: its least and greatest valid value, where its bytes begin in a call's, and how many they are.
type field struct {
	name        string
	least, most int64
	at, bytes   int
	set         func(c *api.Call, n int64)
	get         func(c api.Call) int64
}

func fields() []field {
	return []field{
		{"Op", 1, 20, 0, 1, func(c *api.Call, n int64) { c.Op = int(n) }, func(c api.Call) int64 { return int64(c.Op) }},
		{"Fd", -4, 35, 1, 1, func(c *api.Call, n int64) { c.Fd = int(n) }, func(c api.Call) int64 { return int64(c.Fd) }},
		{"Flag", 0, 63, 2, 1, func(c *api.Call, n int64) { c.Flag = int(n) }, func(c api.Call) int64 { return int64(c.Flag) }},
		{"N", -256, 65279, 3, 2, func(c *api.Call, n int64) { c.N = n }, func(c api.Call) int64 { return c.N }},
		{"Off", -256, 65279, 5, 2, func(c *api.Call, n int64) { c.Off = n }, func(c api.Call) int64 { return c.Off }},
	}
}

// plainMay is May, by the table of fields.
func plainMay(c api.Call) bool {
	for _, f := range fields() {
		if n := f.get(c); n < f.least || n > f.most {
			return false
		}
	}
	return len(c.A) < 64 && len(c.B) < 64
}

// plainBytes are a valid call's bytes, by the table of fields.
func plainBytes(c api.Call) []byte {
	b := make([]byte, 7)
	for _, f := range fields() {
		n := f.get(c) - f.least
		for i := f.bytes - 1; i >= 0; i-- {
			b[f.at+i] = byte(n % 256)
			n /= 256
		}
	}
	for _, text := range []string{c.A, c.B} {
		b = append(b, byte(len(text)))
		b = append(b, text...)
	}
	return b
}

// plainScript is a script's bytes, or false.
func plainScript(l []api.Call) ([]byte, bool) {
	if len(l) > 200 {
		return nil, false
	}
	var b []byte
	for _, c := range l {
		if !plainMay(c) {
			return nil, false
		}
		b = slices.Concat(b, plainBytes(c))
	}
	return b, true
}

// plainCalls are the calls of bytes: so many zeros are laid behind them that no place is missing.
func plainCalls(b []byte) []api.Call {
	long := slices.Concat(b, make([]byte, 200))
	var calls []api.Call
	for at := 0; at < len(b) && len(calls) < 200; {
		var c api.Call
		for _, f := range fields() {
			n := int64(long[at+f.at])
			if f.bytes == 2 {
				n = n*256 + int64(long[at+f.at+1])
			}
			f.set(&c, f.least+n%(f.most-f.least+1))
		}
		at += 7
		for _, text := range []*string{&c.A, &c.B} {
			end := at + 1 + int(long[at]%64)
			*text = string(long[at+1 : end])
			at = end
		}
		calls = append(calls, c)
	}
	return calls
}

// alike holds a list to another; a failure tells where they part, as the whole of them is long.
func alike[T comparable](t *testing.T, what string, got, want []T) {
	t.Helper()
	for i := range min(len(got), len(want)) {
		if got[i] != want[i] {
			t.Fatalf("%s: number %d of %d is %#v, want %#v", what, i, len(got), got[i], want[i])
		}
	}
	if len(got) != len(want) {
		t.Fatalf("%s: %d, want %d", what, len(got), len(want))
	}
}

// encodes holds May, Encode and Script of one call to whether it is valid, and to its bytes.
func encodes(t *testing.T, c api.Call, valid bool) {
	t.Helper()
	if may := May(c); may != valid || plainMay(c) != valid {
		t.Fatalf("May(%#v): %t, want %t", c, may, valid)
	}
	var want []byte
	wantE := api.EINVAL
	if valid {
		want, wantE = plainBytes(c), api.OK
	}
	if b, e := Encode(c); e != wantE || !bytes.Equal(b, want) {
		t.Fatalf("Encode(%#v): %v, %d, want %v, %d", c, b, e, want, wantE)
	}
	scripts(t, []api.Call{c}, valid)
}

// scripts holds Script to whether it takes the calls, and, if so, to their bytes and to what these decode to.
func scripts(t *testing.T, l []api.Call, valid bool) {
	t.Helper()
	before := slices.Clone(l)
	b, e := Script(l)
	if !slices.Equal(l, before) {
		t.Fatal("Script changed the calls that it was handed")
	}
	want, ok := plainScript(l)
	if ok != valid {
		t.Fatalf("the test takes %d calls for valid: %t, want %t", len(l), ok, valid)
	}
	if !valid {
		if e != api.EINVAL || len(b) != 0 {
			t.Fatalf("Script of %d calls: %d bytes, %d, want EINVAL", len(l), len(b), e)
		}
		return
	}
	if e != api.OK {
		t.Fatalf("Script of %d calls: %d", len(l), e)
	}
	alike(t, "a script's bytes", b, want)
	alike(t, "the calls of a script's bytes", Decode(b), l)
}

// decodes holds Decode to what bytes decode to, and the calls to being valid and encodable.
func decodes(t *testing.T, b []byte) []api.Call {
	t.Helper()
	before := slices.Clone(b)
	calls := Decode(b)
	if !bytes.Equal(b, before) {
		t.Fatal("Decode changed the bytes that it was handed")
	}
	alike(t, "the calls of bytes", calls, plainCalls(b))
	for _, c := range calls {
		if !May(c) {
			t.Fatalf("%#v is decoded, but not valid", c)
		}
	}
	scripts(t, calls, true)
	return calls
}

// everyByte is a text of n bytes, from one value on: n and first chosen well, texts hold all values.
func everyByte(first, n int) string {
	b := make([]byte, n)
	for i := range b {
		b[i] = byte(first + i)
	}
	return string(b)
}

// numbered is the k-th of many valid calls that differ.
func numbered(k int) api.Call {
	return api.Call{
		Op: 1 + k%20, Fd: k%40 - 4, Flag: k % 64, N: int64(k*331%65536) - 256, Off: int64(k*7919%65536) - 256,
		A: everyByte(k*5, k%64), B: strings.Repeat("b", k*3%64),
	}
}

func numberedList(n int) []api.Call {
	l := make([]api.Call, n)
	for k := range l {
		l[k] = numbered(k)
	}
	return l
}
