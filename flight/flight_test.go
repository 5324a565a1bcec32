package flight

import (
	"math"
	"slices"
	"testing"

	"veneer/api"
)

// errnos are all errors there are, with OK, and numbers of none.
func errnos() []api.Errno {
	return []api.Errno{
		api.OK, api.EPERM, api.ENOENT, api.EBADF, api.EBUSY, api.EEXIST, api.ENOTDIR, api.EISDIR, api.EINVAL, api.ENFILE, api.EMFILE,
		api.EFBIG, api.ENOSPC, api.EROFS, api.EMLINK, api.ENAMETOOLONG, api.ENOTEMPTY, api.ELOOP, -1, 3, 256, math.MinInt, math.MaxInt,
	}
}

// numbers are keys or participants, some of which are the same in their low bits.
func numbers() []int {
	return []int{0, 1, -1, 2, 63, 64, 256, -256, 1 << 31, 1 << 32, -(1 << 32), math.MinInt32, math.MaxInt32, math.MinInt, math.MinInt + 1, math.MaxInt - 1, math.MaxInt}
}

// tells holds what is told of a flight to what is wanted.
func (b *both) tells(key, who int, is bool, joined []int) {
	b.t.Helper()
	if got, f := b.f.Lead(key); got != who || f != is {
		b.t.Fatalf("Lead(%d): %d, %t, want %d, %t", key, got, f, who, is)
	}
	b.same("Joined", b.f.Joined(key), joined)
}

// busy holds Busy to what is wanted, of each of some.
func (b *both) busy(want bool, all ...int) {
	b.t.Helper()
	for _, who := range all {
		if got := b.f.Busy(who); got != want {
			b.t.Fatalf("Busy(%d): %t", who, got)
		}
	}
}

// TestExample: P16.1: the chapter's example.
func TestExample(t *testing.T) {
	b := newBoth(t)
	b.join(7, 1, true, api.OK)
	b.join(7, 2, false, api.OK)
	b.join(7, 2, false, api.EBUSY)
	b.join(8, 1, false, api.EBUSY)
	b.land(7, 2, api.OK, nil, api.EPERM)
	b.land(7, 1, api.ENOSPC, []int{2}, api.OK)
	b.result(2, api.ENOSPC, true)
	b.result(2, api.OK, false)
}

// TestNew: P16.1: a new table has no flights and no results.
func TestNew(t *testing.T) {
	f := New()
	if len(f.Keys()) != 0 {
		t.Errorf("Keys: %v", f.Keys())
	}
	for _, n := range numbers() {
		if who, is := f.Lead(n); who != 0 || is || len(f.Joined(n)) != 0 || f.Busy(n) {
			t.Errorf("%d: led by %d, %t, joined by %v, busy %t", n, who, is, f.Joined(n), f.Busy(n))
		}
		if e, is := f.Result(n); e != api.OK || is {
			t.Errorf("Result(%d): %d, %t", n, e, is)
		}
		if all, e := f.Land(n, n, api.EFBIG); len(all) != 0 || e != api.ENOENT {
			t.Errorf("Land(%d): %v, %d", n, all, e)
		}
	}
}

// TestJoin: P16.1, P16.2: the first one leads, the others join behind each other, in the order in which they came and not in that of their numbers.
func TestJoin(t *testing.T) {
	b := newBoth(t)
	b.tells(7, 0, false, nil)
	b.busy(false, 5, 9, 2, 4)
	b.join(7, 5, true, api.OK)
	b.tells(7, 5, true, nil)
	b.busy(true, 5)
	b.busy(false, 9, 2, 4)
	b.join(7, 9, false, api.OK)
	b.tells(7, 5, true, []int{9})
	b.busy(true, 5, 9)
	b.busy(false, 2, 4)
	b.join(7, 2, false, api.OK)
	b.tells(7, 5, true, []int{9, 2})
	b.join(7, 4, false, api.OK)
	b.tells(7, 5, true, []int{9, 2, 4})
	b.busy(true, 5, 9, 2, 4)
	b.tells(5, 0, false, nil)
	b.tells(9, 0, false, nil)
	b.busy(false, 7)
}

// TestBusy: P16.1, P16.2: one who leads, who has joined, or whose result is stored can neither lead nor join, whatever the key; one who has asked for it can.
func TestBusy(t *testing.T) {
	b := newBoth(t)
	b.join(7, 1, true, api.OK)
	b.join(7, 2, false, api.OK)
	b.join(7, 3, false, api.OK)
	b.join(6, 4, true, api.OK)
	barred := func(all ...int) {
		t.Helper()
		b.busy(true, all...)
		for _, who := range all {
			for _, key := range []int{7, 6, 8, 0, who} {
				b.join(key, who, false, api.EBUSY)
			}
		}
	}
	barred(1, 2, 3, 4)
	b.land(7, 1, api.OK, []int{2, 3}, api.OK)
	b.busy(false, 1)
	barred(2, 3, 4) // the results of 2 and 3 are stored, be they OK or not
	b.result(2, api.OK, true)
	b.busy(false, 1, 2)
	barred(3, 4)
	b.join(6, 2, false, api.OK)
	b.join(7, 1, true, api.OK)
	barred(1, 2, 3, 4)
	b.result(3, api.OK, true)
	b.join(7, 3, false, api.OK)
	b.tells(7, 1, true, []int{3})
	b.tells(6, 4, true, []int{2})
	barred(1, 2, 3, 4)
}

// TestBusyFails: P16.1, P16.2: as TestBusy, with results that are no OK: one whose result is stored is busy, whatever it is.
func TestBusyFails(t *testing.T) {
	for _, e := range errnos() {
		b := newBoth(t)
		b.join(7, 1, true, api.OK)
		b.join(7, 2, false, api.OK)
		b.land(7, 1, e, []int{2}, api.OK)
		b.busy(true, 2)
		b.join(7, 2, false, api.EBUSY)
		b.result(2, e, true)
		b.busy(false, 2)
		b.join(7, 2, true, api.OK)
		b.busy(true, 2)
	}
}

// TestNumbers: P16.1, P16.2: keys and participants are any numbers, and none is taken for another one.
func TestNumbers(t *testing.T) {
	all := numbers()
	for _, key := range all {
		for i, who := range all {
			b := newBoth(t)
			b.join(key, who, true, api.OK)
			b.tells(key, who, true, nil)
			b.same("Keys", b.f.Keys(), []int{key})
			var others []int
			for _, w := range all {
				if w != who {
					b.busy(false, w)
					b.tryJoin(key, w)
					others = append(others, w)
				}
			}
			b.busy(true, all...)
			b.tells(key, who, true, others)
			b.land(key, all[(i+1)%len(all)], api.EFBIG, nil, api.EPERM)
			b.land(key, who, api.EFBIG, others, api.OK)
			b.busy(true, others...)
			b.busy(false, who)
			b.tells(key, 0, false, nil)
			b.ask()
			b.busy(false, all...)
		}
	}
}

// TestManyFlights: P16.1, P16.2: flights with any keys beside each other, each of which has those who came to it.
func TestManyFlights(t *testing.T) {
	b := newBoth(t)
	all := numbers()
	for i, key := range all {
		b.join(key, 3*i+1000, true, api.OK)
	}
	for i, key := range all {
		b.join(key, 3*i+1002, false, api.OK)
		b.join(key, 3*i+1001, false, api.OK)
	}
	for i, key := range all {
		b.tells(key, 3*i+1000, true, []int{3*i + 1002, 3*i + 1001})
	}
	for i, key := range all {
		b.land(key, 3*i+1003, api.OK, nil, api.EPERM) // who leads the next one, or nobody
		b.land(key, 3*i+1000, api.Errno(i), []int{3*i + 1002, 3*i + 1001}, api.OK)
	}
	for i := range all {
		b.result(3*i+1000, api.OK, false)
		b.result(3*i+1001, api.Errno(i), true)
		b.result(3*i+1002, api.Errno(i), true)
	}
}

// TestLand: P16.1: a flight that nobody, one, or several have joined ends, with OK or any errno: those who joined have that result, the one who leads has none.
func TestLand(t *testing.T) {
	for _, e := range errnos() {
		for _, joined := range [][]int{nil, {2}, {3, 2}, {9, -4, 6, 0, 5, 2}} {
			b := newBoth(t)
			b.join(7, 1, true, api.OK)
			for _, who := range joined {
				b.join(7, who, false, api.OK)
			}
			b.land(7, 1, e, joined, api.OK)
			b.tells(7, 0, false, nil)
			b.same("Keys", b.f.Keys(), nil)
			b.busy(false, 1)
			b.busy(true, joined...)
			b.land(7, 1, e, nil, api.ENOENT)
			b.result(1, api.OK, false)
			b.result(7, api.OK, false)
			for _, who := range joined {
				b.result(who, e, true)
				b.busy(false, who)
				b.result(who, api.OK, false)
			}
		}
	}
}

// TestNoFlight: P16.1: of a key that has no flight, none yet or none any more, Land is ENOENT, whoever asks: who leads another one, has joined one, has a result, or is nobody's.
func TestNoFlight(t *testing.T) {
	b := newBoth(t)
	b.join(6, 5, true, api.OK)
	b.join(6, 4, false, api.OK)
	b.land(6, 5, api.EROFS, []int{4}, api.OK)
	b.join(7, 1, true, api.OK)
	b.join(7, 2, false, api.OK)
	for _, key := range append(numbers(), 6, 8) {
		for _, who := range append(numbers(), 4, 5, key) {
			for _, e := range []api.Errno{api.OK, api.EFBIG} {
				b.land(key, who, e, nil, api.ENOENT)
			}
		}
	}
	b.tells(7, 1, true, []int{2})
	b.result(1, api.OK, false)
	b.result(2, api.OK, false)
	b.result(4, api.EROFS, true)
}

// TestNotTheLeader: P16.1: only who leads a flight ends it, not who leads another one, has joined this one or another one, has a result, or is nobody's.
func TestNotTheLeader(t *testing.T) {
	b := newBoth(t)
	b.join(5, 12, true, api.OK)
	b.join(5, 13, false, api.OK)
	b.land(5, 12, api.EROFS, []int{13}, api.OK)
	b.join(7, 1, true, api.OK)
	b.join(7, 2, false, api.OK)
	b.join(7, 3, false, api.OK)
	b.join(6, 4, true, api.OK)
	b.join(6, 8, false, api.OK)
	for _, e := range errnos() {
		for _, who := range []int{0, 2, 3, 4, 7, 8, 12, 13, -1, 99, math.MinInt, math.MaxInt} {
			b.land(7, who, e, nil, api.EPERM)
		}
		for _, who := range []int{0, 1, 2, 3, 6, 8, 12, 13, -4} {
			b.land(6, who, e, nil, api.EPERM)
		}
	}
	b.tells(7, 1, true, []int{2, 3})
	b.tells(6, 4, true, []int{8})
	b.land(6, 4, api.OK, []int{8}, api.OK)
	b.land(7, 1, api.ELOOP, []int{2, 3}, api.OK)
	b.result(13, api.EROFS, true)
	b.result(8, api.OK, true)
	b.result(3, api.ELOOP, true)
	b.result(2, api.ELOOP, true)
}

// TestLeaderZero: P16.1: 0 isn't taken for the leader of what has none, nor the leader 0 for none.
func TestLeaderZero(t *testing.T) {
	b := newBoth(t)
	b.land(0, 0, api.OK, nil, api.ENOENT)
	b.join(0, 0, true, api.OK)
	b.tells(0, 0, true, nil)
	b.join(0, 1, false, api.OK)
	b.land(0, 1, api.OK, nil, api.EPERM)
	b.land(1, 0, api.OK, nil, api.ENOENT)
	b.land(0, 0, api.EFBIG, []int{1}, api.OK)
	b.land(0, 0, api.EFBIG, nil, api.ENOENT)
	b.result(0, api.OK, false)
	b.result(1, api.EFBIG, true)
}

// TestOthersStay: P16.1: that a flight ends is not to be seen in the others.
func TestOthersStay(t *testing.T) {
	b := newBoth(t)
	for key := range 5 {
		b.join(key, 10*key, true, api.OK)
		b.join(key, 10*key+2, false, api.OK)
		b.join(key, 10*key+1, false, api.OK)
	}
	for _, key := range []int{2, 0, 4, 1, 3} {
		b.land(key, 10*key, api.Errno(key), []int{10*key + 2, 10*key + 1}, api.OK)
	}
	b.ask()
}

// TestAgain: P16.1: a key that has landed can be led again, by who led it, by who had joined it, or by another one; a result of before stays what it was.
func TestAgain(t *testing.T) {
	for _, next := range []int{1, 2, 5} {
		b := newBoth(t)
		b.join(7, 1, true, api.OK)
		b.join(7, 2, false, api.OK)
		b.join(7, 3, false, api.OK)
		b.land(7, 1, api.EFBIG, []int{2, 3}, api.OK)
		if next == 2 {
			b.result(2, api.EFBIG, true)
		}
		b.join(7, next, true, api.OK)
		b.tells(7, next, true, nil)
		b.join(7, 4, false, api.OK)
		b.join(7, 3, false, api.EBUSY)
		b.land(7, next, api.ELOOP, []int{4}, api.OK)
		b.result(3, api.EFBIG, true)
		b.result(4, api.ELOOP, true)
		b.ask()
	}
	b := newBoth(t)
	for i := range 100 {
		b.join(7, i%3, true, api.OK)
		b.join(7, (i+1)%3, false, api.OK)
		b.land(7, i%3, api.Errno(i), []int{(i + 1) % 3}, api.OK)
		b.result((i+1)%3, api.Errno(i), true)
	}
}

// TestResult: P16.1: whoever has no result gets none, and nothing changes: nobody's, who leads, who has joined, who has asked.
func TestResult(t *testing.T) {
	b := newBoth(t)
	for _, who := range numbers() {
		b.result(who, api.OK, false)
	}
	b.join(7, 1, true, api.OK)
	b.join(7, 2, false, api.OK)
	b.join(7, 3, false, api.OK)
	for _, who := range []int{0, 1, 2, 3, 7, 1, 2, 3} {
		b.result(who, api.OK, false)
	}
	b.tells(7, 1, true, []int{2, 3})
	b.land(7, 1, api.EFBIG, []int{2, 3}, api.OK)
	b.result(1, api.OK, false)
	b.result(3, api.EFBIG, true)
	b.result(3, api.OK, false)
	b.busy(true, 2)
	b.result(2, api.EFBIG, true)
	b.result(2, api.OK, false)
	b.join(7, 2, true, api.OK)
	b.result(2, api.OK, false)
	b.tells(7, 2, true, nil)
}

// TestResultKept: P16.1: a result waits for who has joined, whatever goes on.
func TestResultKept(t *testing.T) {
	b := newBoth(t)
	b.join(7, 1, true, api.OK)
	b.join(7, 2, false, api.OK)
	b.land(7, 1, api.EFBIG, []int{2}, api.OK)
	b.join(7, 2, false, api.EBUSY)
	b.join(8, 2, false, api.EBUSY)
	b.land(2, 2, api.OK, nil, api.ENOENT)
	for i := range 20 {
		b.join(7, 3, true, api.OK)
		b.join(7, 4, false, api.OK)
		b.land(7, 2, api.OK, nil, api.EPERM)
		b.land(7, 3, api.Errno(i), []int{4}, api.OK)
		b.result(4, api.Errno(i), true)
		b.result(3, api.OK, false)
	}
	b.result(2, api.EFBIG, true)
	b.result(2, api.OK, false)
}

// TestLead: P16.2: who leads, and who has joined, a flight that there is; of a key without one, also of one that has landed, nobody.
func TestLead(t *testing.T) {
	b := newBoth(t)
	for _, key := range numbers() {
		b.tells(key, 0, false, nil)
	}
	b.join(-3, -9, true, api.OK)
	for _, key := range append(numbers(), 3, 9, -9) {
		b.tells(key, 0, false, nil)
	}
	b.tells(-3, -9, true, nil)
	b.join(-3, 8, false, api.OK)
	b.join(-3, -8, false, api.OK)
	b.tells(-3, -9, true, []int{8, -8})
	b.land(-3, -9, api.OK, []int{8, -8}, api.OK)
	b.tells(-3, 0, false, nil)
}

// TestKeys: P16.2: the keys of no flight, of one, of several, in increasing order whatever the order of joining.
func TestKeys(t *testing.T) {
	orders := [][]int{
		{}, {0}, {-5}, {7}, {math.MaxInt}, {math.MinInt}, {1, 2}, {2, 1}, {-1, -2}, {-2, -1}, {5, -5}, {10, 9, 100},
		{3, 1, 2, 0, -1, -3, -2}, {math.MaxInt, 0, math.MinInt, -1, 1}, {math.MinInt, math.MaxInt}, {1 << 32, 1, 1 << 31, -(1 << 32)},
	}
	for _, keys := range orders {
		b := newBoth(t)
		for i, key := range keys {
			b.join(key, 1000-i, true, api.OK)
			b.join(key, 2000+i, false, api.OK)
			want := slices.Clone(keys[:i+1])
			slices.Sort(want)
			b.same("Keys", b.f.Keys(), want)
		}
		for i, key := range keys {
			b.land(key, 1000-i, api.OK, []int{2000 + i}, api.OK)
			want := slices.Clone(keys[i+1:])
			slices.Sort(want)
			b.same("Keys", b.f.Keys(), want)
		}
	}
}

// TestBusyAlong: P16.2: whether one is busy, ahead of each call and behind it.
func TestBusyAlong(t *testing.T) {
	b := newBoth(t)
	b.busy(false, 1, 2, 3, 7)
	b.join(7, 1, true, api.OK)
	b.busy(true, 1)
	b.busy(false, 2, 3, 7)
	b.join(7, 2, false, api.OK)
	b.busy(true, 1, 2)
	b.busy(false, 3, 7)
	b.land(7, 3, api.OK, nil, api.EPERM)
	b.land(3, 3, api.OK, nil, api.ENOENT)
	b.result(3, api.OK, false)
	b.busy(false, 3, 7)
	b.land(7, 1, api.OK, []int{2}, api.OK)
	b.busy(true, 2)
	b.busy(false, 1, 3, 7)
	b.result(1, api.OK, false)
	b.busy(true, 2)
	b.result(2, api.OK, true)
	b.busy(false, 1, 2, 3, 7)
}

// TestErrnoChangesNothing: P16.1, R2: behind calls that return an errno all is as it was ahead of them, with all that may be told of it.
func TestErrnoChangesNothing(t *testing.T) {
	set := func() *both {
		b := newBoth(t)
		b.join(5, 8, true, api.OK)
		b.join(5, 9, false, api.OK)
		b.land(5, 8, api.EROFS, []int{9}, api.OK)
		b.join(7, 1, true, api.OK)
		b.join(7, 2, false, api.OK)
		b.join(6, 3, true, api.OK)
		return b
	}
	fails := []func(b *both){
		func(b *both) { b.join(7, 1, false, api.EBUSY) },
		func(b *both) { b.join(8, 1, false, api.EBUSY) },
		func(b *both) { b.join(6, 2, false, api.EBUSY) },
		func(b *both) { b.join(9, 9, false, api.EBUSY) },
		func(b *both) { b.join(7, 9, false, api.EBUSY) },
		func(b *both) { b.land(5, 8, api.OK, nil, api.ENOENT) },
		func(b *both) { b.land(9, 1, api.OK, nil, api.ENOENT) },
		func(b *both) { b.land(7, 2, api.OK, nil, api.EPERM) },
		func(b *both) { b.land(7, 3, api.EFBIG, nil, api.EPERM) },
		func(b *both) { b.land(6, 9, api.EFBIG, nil, api.EPERM) },
	}
	for _, fail := range fails {
		b := set()
		fail(b)
		fail(b)
		b.same("Keys", b.f.Keys(), []int{6, 7})
		b.tells(7, 1, true, []int{2})
		b.tells(6, 3, true, nil)
		b.busy(true, 1, 2, 3, 9)
		b.busy(false, 8, 5, 6, 7)
		b.join(7, 4, false, api.OK)
		b.land(7, 1, api.ELOOP, []int{2, 4}, api.OK)
		b.land(6, 3, api.OK, nil, api.OK)
		b.result(9, api.EROFS, true)
		b.result(4, api.ELOOP, true)
		b.result(2, api.ELOOP, true)
		b.ask()
	}
}

// TestOwnLists: P16.1, P16.2, R3: what has been returned stays what it was, whatever is called afterwards, and what is done to it is seen nowhere.
func TestOwnLists(t *testing.T) {
	f := New()
	for who := range 40 { // enough to have the lists grow more than once
		f.Join(7, who)
		f.Join(who+100, who+100)
		joined, more, keys := f.Joined(7), f.Joined(7), f.Keys()
		wanted, own := slices.Clone(joined), slices.Clone(keys)
		f.Join(7, 50+who)
		if !slices.Equal(joined, wanted) || !slices.Equal(keys, own) {
			t.Fatalf("%v and %v have changed: %v, %v", wanted, own, joined, keys)
		}
		spoil(joined)
		spoil(keys)
		if !slices.Equal(more, wanted) {
			t.Fatalf("%v has changed: %v", wanted, more)
		}
	}
	joined := f.Joined(7)
	wanted := slices.Clone(joined)
	landed, e := f.Land(7, 0, api.EFBIG)
	if e != api.OK || !slices.Equal(landed, wanted) {
		t.Fatalf("Land: %v, %d", landed, e)
	}
	spoil(joined)
	if !slices.Equal(landed, wanted) {
		t.Fatalf("Land: shares what Joined returned: %v", landed)
	}
	spoil(landed)
	f.Join(7, 0)
	f.Join(7, 99)
	if all := f.Joined(7); !slices.Equal(all, []int{99}) || !slices.Equal(landed, slices.Repeat([]int{-7}, len(landed))) {
		t.Fatalf("joined is %v, returned was %v", all, landed)
	}
	for _, who := range wanted {
		if e, is := f.Result(who); e != api.EFBIG || !is {
			t.Errorf("Result(%d): %d, %t", who, e, is)
		}
	}
}

// TestTwoTables: P16.1, R5: two tables have nothing to do with each other.
func TestTwoTables(t *testing.T) {
	a, b := newBoth(t), newBoth(t)
	a.join(7, 1, true, api.OK)
	b.tells(7, 0, false, nil)
	b.busy(false, 1)
	b.join(7, 2, true, api.OK)
	b.join(7, 1, false, api.OK)
	a.join(7, 2, false, api.OK)
	b.land(7, 1, api.OK, nil, api.EPERM)
	a.land(7, 1, api.EFBIG, []int{2}, api.OK)
	b.result(2, api.OK, false)
	b.tells(7, 2, true, []int{1})
	b.land(7, 2, api.ELOOP, []int{1}, api.OK)
	a.result(1, api.OK, false)
	a.result(2, api.EFBIG, true)
	b.result(1, api.ELOOP, true)
	if New() == New() {
		t.Error("two tables are one")
	}
}

// TestMany: P16.1, P16.2: very many participants of one flight, and very many flights, in time.
func TestMany(t *testing.T) {
	const many = 200000
	f := New()
	for who := range many {
		if lead, e := f.Join(7, who); lead != (who == 0) || e != api.OK {
			t.Fatalf("Join(7, %d): %t, %d", who, lead, e)
		}
		if lead, e := f.Join(-who, many+who); !lead || e != api.OK {
			t.Fatalf("Join(%d, %d): %t, %d", -who, many+who, lead, e)
		}
	}
	if all := f.Keys(); len(all) != many+1 || all[0] != 1-many || all[many] != 7 || !slices.IsSorted(all) {
		t.Fatalf("%d keys", len(all))
	}
	all, e := f.Land(7, 0, api.EFBIG)
	if len(all) != many-1 || all[0] != 1 || !slices.IsSorted(all) || e != api.OK {
		t.Fatalf("Land: %d participants, %d", len(all), e)
	}
	for who := range many {
		if e, is := f.Result(who); is != (who != 0) || is && e != api.EFBIG || f.Busy(who) {
			t.Fatalf("Result(%d): %d, %t", who, e, is)
		}
		if all, e := f.Land(-who, many+who, api.OK); len(all) != 0 || e != api.OK {
			t.Fatalf("Land(%d): %v, %d", -who, all, e)
		}
	}
	if len(f.Keys()) != 0 {
		t.Errorf("%d keys", len(f.Keys()))
	}
}
