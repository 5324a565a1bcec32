package queue

import (
	"math"
	"math/rand/v2"
	"slices"
	"testing"
)

// plain is a queue told the plainest way: a list in the order of the pushes, out of which the first of the lowest key comes.
type plain []pair

type pair struct {
	key int64
	n   int
}

func (p *plain) push(key int64, n int) { *p = append(*p, pair{key, n}) }

// first tells where the item stands that comes first, or -1.
func (p *plain) first() int {
	at := -1
	for i, x := range *p {
		if at < 0 || x.key < (*p)[at].key {
			at = i
		}
	}
	return at
}

func (p *plain) peek() (int64, int, bool) {
	at := p.first()
	if at < 0 {
		return 0, 0, false
	}
	return (*p)[at].key, (*p)[at].n, true
}

func (p *plain) pop() (int64, int, bool) {
	key, n, ok := p.peek()
	if ok {
		*p = slices.Delete(*p, p.first(), p.first()+1)
	}
	return key, n, ok
}

func (p *plain) drop(n int) int {
	had := len(*p)
	*p = slices.DeleteFunc(*p, func(x pair) bool { return x.n == n })
	return had - len(*p)
}

func (p *plain) has(n int) bool {
	return slices.ContainsFunc(*p, func(x pair) bool { return x.n == n })
}

// both is a queue and the plain one beside it: each call is made on both, and what they answer held together.
type both struct {
	t *testing.T
	q *Queue
	p plain
}

func newBoth(t *testing.T) *both { return &both{t: t, q: New()} }

func (b *both) push(key int64, n int) {
	b.q.Push(key, n)
	b.p.push(key, n)
}

func (b *both) pop() {
	b.t.Helper()
	key, n, ok := b.q.Pop()
	if k, m, is := b.p.pop(); key != k || n != m || ok != is {
		b.t.Fatalf("Pop: %d, %d, %v, want %d, %d, %v", key, n, ok, k, m, is)
	}
}

func (b *both) drop(n int) {
	b.t.Helper()
	got := b.q.Drop(n)
	if want := b.p.drop(n); got != want {
		b.t.Fatalf("Drop(%d): %d, want %d", n, got, want)
	}
}

// look holds what the calls answer that change nothing.
func (b *both) look(numbers ...int) {
	b.t.Helper()
	key, n, ok := b.q.Peek()
	if k, m, is := b.p.peek(); key != k || n != m || ok != is {
		b.t.Fatalf("Peek: %d, %d, %v, want %d, %d, %v", key, n, ok, k, m, is)
	}
	if got := b.q.Len(); got != len(b.p) {
		b.t.Fatalf("Len: %d, want %d", got, len(b.p))
	}
	for _, n := range numbers {
		if got := b.q.Has(n); got != b.p.has(n) {
			b.t.Fatalf("Has(%d): %v, want %v", n, got, b.p.has(n))
		}
	}
}

// empty pops all that is left, and once more.
func (b *both) empty() {
	b.t.Helper()
	for range len(b.p) + 1 {
		b.look()
		b.pop()
	}
	b.look()
}

// want holds what a Pop or a Peek answers.
func want(t *testing.T, call func() (int64, int, bool), key int64, n int, ok bool) {
	t.Helper()
	if k, m, is := call(); k != key || m != n || is != ok {
		t.Errorf("%d, %d, %v, want %d, %d, %v", k, m, is, key, n, ok)
	}
}

// TestEmpty: P2.1, P2.2: a new queue, and one that has become empty, have nothing.
func TestEmpty(t *testing.T) {
	q := New()
	for range 3 {
		want(t, q.Peek, 0, 0, false)
		want(t, q.Pop, 0, 0, false)
		if q.Len() != 0 || q.Has(0) || q.Has(7) || q.Drop(0) != 0 || q.Drop(7) != 0 {
			t.Errorf("an empty queue has something")
		}
		q.Push(3, 7)
		want(t, q.Pop, 3, 7, true)
	}
	q.Push(3, 7)
	if q.Drop(7) != 1 || q.Len() != 0 || q.Has(7) {
		t.Errorf("what was dropped is there")
	}
	want(t, q.Peek, 0, 0, false)
	want(t, q.Pop, 0, 0, false)
}

// TestOne: P2.1: Push, Peek, Len and Has of an item, whatever its key and number, which Peek leaves and Pop takes.
func TestOne(t *testing.T) {
	for _, key := range []int64{0, 1, -1, 2, math.MinInt64, math.MaxInt64} {
		for _, n := range []int{0, 1, -1, 200, math.MinInt, math.MaxInt} {
			q := New()
			q.Push(key, n)
			for range 2 {
				want(t, q.Peek, key, n, true)
			}
			if q.Len() != 1 || !q.Has(n) || q.Has(n+1) {
				t.Errorf("%d, %d: Len %d, Has %v, %v", key, n, q.Len(), q.Has(n), q.Has(n+1))
			}
			want(t, q.Pop, key, n, true)
			if q.Len() != 0 || q.Has(n) {
				t.Errorf("%d, %d: is there after Pop", key, n)
			}
		}
	}
}

// TestKeys: P2.1: the lower key comes first, and keys are held against each other without running over.
func TestKeys(t *testing.T) {
	keys := []int64{0, math.MaxInt64, -1, math.MinInt64, 1, math.MaxInt64 - 1, math.MinInt64 + 1}
	q := New()
	for i, key := range keys {
		q.Push(key, i)
	}
	for _, i := range []int{3, 6, 2, 0, 4, 5, 1} {
		want(t, q.Peek, keys[i], i, true)
		want(t, q.Pop, keys[i], i, true)
	}
	want(t, q.Pop, 0, 0, false)
}

// TestStable: P2.1: of equal keys the one that was pushed earlier comes first, whatever the numbers, and also if others went between.
func TestStable(t *testing.T) {
	q := New()
	for i := range 50 {
		q.Push(5, 50-i)
	}
	for i := range 25 {
		want(t, q.Pop, 5, 50-i, true)
		q.Push(5, 100-i)
		q.Push(4, i)
		want(t, q.Pop, 4, i, true)
	}
	for i := range 25 {
		want(t, q.Pop, 5, 25-i, true)
	}
	for i := range 25 {
		want(t, q.Pop, 5, 100-i, true)
	}
	want(t, q.Pop, 0, 0, false)
	q.Push(5, 2)
	q.Push(5, 1)
	want(t, q.Pop, 5, 2, true)
	want(t, q.Pop, 5, 1, true)
}

// TestSame: P2.1: items of equal keys and numbers are as many as were pushed.
func TestSame(t *testing.T) {
	q := New()
	for i := range 4 {
		q.Push(1, 9)
		if q.Len() != i+1 || !q.Has(9) {
			t.Errorf("Len %d, Has %v", q.Len(), q.Has(9))
		}
	}
	for i := range 4 {
		want(t, q.Pop, 1, 9, true)
		if q.Len() != 3-i || q.Has(9) != (i < 3) {
			t.Errorf("Len %d, Has %v", q.Len(), q.Has(9))
		}
	}
}

// TestDrop: P2.2: none, some and all are dropped, and the others keep their order.
func TestDrop(t *testing.T) {
	fill := func() *Queue {
		q := New()
		for i, n := range []int{1, 2, 1, 3, 2, 1, 4, 1} {
			q.Push(int64(7-i)/2, n)
		}
		return q
	}
	for _, c := range []struct {
		drop []int
		gone []int
		left []pair
	}{
		{nil, nil, []pair{{0, 4}, {0, 1}, {1, 2}, {1, 1}, {2, 1}, {2, 3}, {3, 1}, {3, 2}}},
		{[]int{0, 5, -1}, []int{0, 0, 0}, []pair{{0, 4}, {0, 1}, {1, 2}, {1, 1}, {2, 1}, {2, 3}, {3, 1}, {3, 2}}},
		{[]int{1, 1}, []int{4, 0}, []pair{{0, 4}, {1, 2}, {2, 3}, {3, 2}}},
		{[]int{2}, []int{2}, []pair{{0, 4}, {0, 1}, {1, 1}, {2, 1}, {2, 3}, {3, 1}}},
		{[]int{4}, []int{1}, []pair{{0, 1}, {1, 2}, {1, 1}, {2, 1}, {2, 3}, {3, 1}, {3, 2}}},
		{[]int{3, 1}, []int{1, 4}, []pair{{0, 4}, {1, 2}, {3, 2}}},
		{[]int{1, 2, 3, 4}, []int{4, 2, 1, 1}, nil},
	} {
		q := fill()
		for i, n := range c.drop {
			if got := q.Drop(n); got != c.gone[i] || q.Has(n) {
				t.Errorf("%v: Drop(%d) %d, want %d", c.drop, n, got, c.gone[i])
			}
		}
		if q.Len() != len(c.left) {
			t.Errorf("%v: Len %d", c.drop, q.Len())
		}
		for _, x := range c.left {
			if !q.Has(x.n) {
				t.Errorf("%v: %d isn't there", c.drop, x.n)
			}
			want(t, q.Pop, x.key, x.n, true)
		}
		want(t, q.Pop, 0, 0, false)
	}
}

// TestDropAll: P2.2: all items of one number are dropped at once, and what is pushed afterwards is there.
func TestDropAll(t *testing.T) {
	q := New()
	for i := range 100 {
		q.Push(int64(i%7), 1)
	}
	if got := q.Drop(1); got != 100 || q.Len() != 0 {
		t.Errorf("Drop: %d, Len %d", got, q.Len())
	}
	q.Push(6, 1)
	q.Push(6, 2)
	q.Push(-6, 1)
	want(t, q.Pop, -6, 1, true)
	want(t, q.Pop, 6, 1, true)
	want(t, q.Pop, 6, 2, true)
}

// TestExample: P2.1, P2.2: the chapter's example.
func TestExample(t *testing.T) {
	q := New()
	q.Push(2, 7)
	q.Push(1, 8)
	q.Push(2, 9)
	want(t, q.Pop, 1, 8, true)
	if got := q.Drop(7); got != 1 {
		t.Errorf("Drop: %d", got)
	}
	want(t, q.Pop, 2, 9, true)
	want(t, q.Pop, 0, 0, false)
}

// TestApart: P2.1: queues are apart from each other, and so the same calls answer the same (R4, R5).
func TestApart(t *testing.T) {
	a, b := New(), New()
	a.Push(1, 1)
	if b.Len() != 0 || b.Has(1) {
		t.Errorf("a queue has another one's item")
	}
	b.Push(1, 2)
	b.Push(1, 1)
	a.Push(1, 2)
	if a.Drop(1) != 1 || b.Len() != 2 {
		t.Errorf("Drop reaches another queue")
	}
	want(t, a.Pop, 1, 2, true)
	want(t, b.Pop, 1, 2, true)
	want(t, b.Pop, 1, 1, true)
}

// TestEach: P2.1, P2.2: every list of five calls out of a few, and what is left after it.
func TestEach(t *testing.T) {
	calls := []func(*both){
		func(b *both) { b.push(0, 0) },
		func(b *both) { b.push(0, 1) },
		func(b *both) { b.push(-1, 0) },
		func(b *both) { b.push(1, 2) },
		func(b *both) { b.pop() },
		func(b *both) { b.drop(0) },
		func(b *both) { b.drop(2) },
	}
	const long = 5
	lists := 1
	for range long {
		lists *= len(calls)
	}
	for list := range lists {
		b := newBoth(t)
		for rest, i := list, 0; i < long; rest, i = rest/len(calls), i+1 {
			calls[rest%len(calls)](b)
			b.look(0, 1, 2, 3)
		}
		b.empty()
	}
}

// TestMany: P2.1, P2.2: items come and go many times, of few keys and numbers and of many.
func TestMany(t *testing.T) {
	for seed := range uint64(60) {
		r := rand.New(rand.NewPCG(seed, 2))
		keys, numbers := 1+r.Int64N(1+int64(seed)), 1+r.IntN(1+int(seed))
		pushes := 3 + r.IntN(5)
		b := newBoth(t)
		for range 1500 {
			switch n := r.IntN(numbers); r.IntN(12) {
			case 0:
				b.drop(n)
			case 1, 2, 3, 4:
				b.pop()
			default:
				for range r.IntN(pushes) {
					b.push(r.Int64N(keys)-keys/2, r.IntN(numbers))
				}
			}
			b.look(r.IntN(numbers), numbers)
			if len(b.p) > 200 {
				b.empty()
			}
		}
		b.empty()
	}
}

// TestAll: P2.3: what is popped has keys that don't go down, and is all that was pushed, each once, equal keys in the order of their pushes.
func TestAll(t *testing.T) {
	const many = 20000
	for _, keys := range []int64{1, 2, 100, many, 1 << 62} {
		r := rand.New(rand.NewPCG(3, uint64(keys)))
		q := New()
		pushed := make([]int64, many)
		for n := range pushed {
			pushed[n] = r.Int64N(keys) - keys/2
			q.Push(pushed[n], n)
		}
		seen := make([]bool, many)
		last, before := int64(math.MinInt64), -1
		for range many {
			key, n, ok := q.Pop()
			if !ok || n < 0 || n >= many || seen[n] || key != pushed[n] {
				t.Fatalf("%d, %d, %v: not what was pushed, or twice", key, n, ok)
			}
			if key < last || key == last && n < before {
				t.Fatalf("%d, %d after %d, %d", key, n, last, before)
			}
			seen[n], last, before = true, key, n
		}
		want(t, q.Pop, 0, 0, false)
	}
}
