package sched

import (
	"math"
	"slices"
	"testing"

	"veneer/api"
)

// Whether a lock is taken to read or to write.
const (
	read  = false
	write = true
)

// badTasks are numbers that no task of so many has, some of which are one in their low bits.
func badTasks(tasks int) []int {
	return []int{
		-1, -2, -63, -64, -256, -(1 << 32), math.MinInt32, math.MinInt, math.MinInt + 1,
		tasks, tasks + 1, 64, 65, 100, 256, 1 << 32, 1<<32 + 1, math.MaxInt32, math.MaxInt - 1, math.MaxInt,
	}
}

// locks are numbers of locks, some of which are the same in their low bits.
func locks() []int {
	return []int{0, 1, -1, 2, 63, 64, 256, -256, 1 << 31, 1 << 32, -(1 << 32), math.MinInt32, math.MaxInt32, math.MinInt, math.MaxInt}
}

// tells holds what is told of a lock, and of the tasks, to what is wanted.
func (b *both) tells(lock int, held []int, toWrite bool, queue, ready, waiting []int) {
	b.t.Helper()
	got, w := b.s.Holders(lock)
	b.same("Holders", got, held)
	if w != toWrite {
		b.t.Fatalf("Holders(%d): to write %t", lock, w)
	}
	b.same("Queue", b.s.Queue(lock), queue)
	b.same("Ready", b.s.Ready(), ready)
	b.same("Waiting", b.s.Waiting(), waiting)
}

// stuck holds Stuck to what is wanted.
func (b *both) stuck(want bool) {
	b.t.Helper()
	if got := b.s.Stuck(); got != want {
		b.t.Fatalf("Stuck: %t", got)
	}
}

// TestExamples: P14.1, P14.2: the chapter's examples, one behind the other.
func TestExamples(t *testing.T) {
	b := newBoth(t, 3)
	b.lock(0, 7, read, true, api.OK)
	b.lock(1, 7, write, false, api.OK)
	b.lock(2, 7, read, false, api.OK)
	b.tells(7, []int{0}, false, []int{1, 2}, []int{0}, []int{1, 2})
	b.unlock(0, 7, api.OK)
	b.tells(7, []int{1}, true, []int{2}, []int{0, 1}, []int{2})
	b.unlock(1, 7, api.OK)
	b.tells(7, []int{2}, false, nil, []int{0, 1, 2}, nil)
}

// TestNew: P14.1: from no task to MaxThread tasks, all of which are ready; of any other number there is no schedule.
func TestNew(t *testing.T) {
	for tasks := range 65 {
		b := newBoth(t, tasks)
		if all := b.s.Ready(); len(all) != tasks || tasks > 0 && (all[0] != 0 || all[tasks-1] != tasks-1) {
			t.Errorf("New(%d): ready are %v", tasks, all)
		}
		b.stuck(false)
	}
	for _, tasks := range []int{-1, -2, -64, math.MinInt, math.MinInt + 1, -(1 << 32), 65, 66, 128, 256, 1 << 32, 1<<32 + 1, math.MaxInt} {
		if New(tasks) != nil {
			t.Errorf("New(%d) isn't nil", tasks)
		}
	}
}

// TestNone: P14.1, P14.2: without tasks nothing is ready, nothing waits, and nothing is stuck; so it is of the nil that New returns.
func TestNone(t *testing.T) {
	for _, tasks := range []int{0, -1, 65} {
		s := New(tasks)
		for range 2 {
			for _, n := range append(badTasks(0), 0, 1) {
				if got, e := s.Lock(n, n, write); got || e != api.EINVAL {
					t.Errorf("Lock(%d): %t, %d", n, got, e)
				}
				if e := s.Unlock(n, n); e != api.EINVAL {
					t.Errorf("Unlock(%d): %d", n, e)
				}
				if e := s.Done(n); e != api.EINVAL {
					t.Errorf("Done(%d): %d", n, e)
				}
				if n, is := s.Pick(n); n != 0 || is {
					t.Errorf("Pick: %d, %t", n, is)
				}
				if all, w := s.Holders(n); len(all) != 0 || w || len(s.Queue(n)) != 0 {
					t.Errorf("%d is held by %v, %t", n, all, w)
				}
			}
			if len(s.Ready()) != 0 || len(s.Waiting()) != 0 || s.Stuck() {
				t.Errorf("New(%d): ready %v, waiting %v, stuck %t", tasks, s.Ready(), s.Waiting(), s.Stuck())
			}
		}
	}
}

// TestNumbers: P14.1: a task that there is not gets EINVAL, and nothing changes, whatever holds and waits.
func TestNumbers(t *testing.T) {
	for _, tasks := range []int{1, 2, 5, 63, 64} {
		b := newBoth(t, tasks)
		b.lock(0, 7, write, true, api.OK)
		if tasks > 1 {
			b.lock(tasks-1, 7, read, false, api.OK)
		}
		for _, n := range badTasks(tasks) {
			for _, lock := range []int{7, 8, n} {
				b.lock(n, lock, read, false, api.EINVAL)
				b.lock(n, lock, write, false, api.EINVAL)
				b.unlock(n, lock, api.EINVAL)
			}
			b.done(n, api.EINVAL)
		}
	}
}

// TestReady: P14.1: a task that is ready locks, goes on, gives back and ends.
func TestReady(t *testing.T) {
	for _, w := range []bool{read, write} {
		b := newBoth(t, 2)
		b.lock(0, 7, w, true, api.OK)
		b.tells(7, []int{0}, w, nil, []int{0, 1}, nil)
		b.lock(0, 8, !w, true, api.OK)
		b.tells(8, []int{0}, !w, nil, []int{0, 1}, nil)
		b.unlock(0, 7, api.OK)
		b.tells(7, nil, false, nil, []int{0, 1}, nil)
		b.unlock(0, 7, api.EPERM)
		b.done(0, api.EBUSY)
		b.unlock(0, 8, api.OK)
		b.done(0, api.OK)
		b.tells(8, nil, false, nil, []int{1}, nil)
	}
}

// TestWaits: P14.1: a task that waits can lock nothing and not end, but give back what it holds.
func TestWaits(t *testing.T) {
	for _, w := range []bool{read, write} {
		b := newBoth(t, 3)
		b.lock(0, 7, write, true, api.OK)
		b.lock(1, 6, write, true, api.OK)
		b.lock(1, 7, w, false, api.OK)
		for _, lock := range []int{5, 6, 7} { // free, held by the task itself, and the one that it waits for
			b.lock(1, lock, read, false, api.EINVAL)
			b.lock(1, lock, write, false, api.EINVAL)
		}
		b.done(1, api.EINVAL)
		b.unlock(1, 7, api.EPERM)
		b.unlock(1, 5, api.EPERM)
		b.tells(7, []int{0}, true, []int{1}, []int{0, 2}, []int{1})
		b.lock(2, 6, w, false, api.OK)
		b.unlock(1, 6, api.OK)
		b.tells(6, []int{2}, w, nil, []int{0, 2}, []int{1})
		b.unlock(1, 6, api.EPERM)
		b.unlock(0, 7, api.OK)
		b.tells(7, []int{1}, w, nil, []int{0, 1, 2}, nil)
	}
}

// TestDone: P14.1: a task that holds nothing is done, once and for all; one that holds anything is not.
func TestDone(t *testing.T) {
	for _, w := range []bool{read, write} {
		b := newBoth(t, 3)
		b.lock(0, 7, w, true, api.OK)
		b.lock(0, 8, w, true, api.OK)
		b.done(0, api.EBUSY)
		b.unlock(0, 8, api.OK)
		b.done(0, api.EBUSY)
		b.lock(1, 7, write, false, api.OK)
		b.done(0, api.EBUSY)
		b.unlock(0, 7, api.OK)
		b.done(1, api.EBUSY) // it was admitted, without asking again
		b.done(0, api.OK)
		b.tells(7, []int{1}, true, nil, []int{1, 2}, nil)
		for range 2 {
			b.done(0, api.EINVAL)
			b.lock(0, 7, w, false, api.EINVAL)
			b.lock(0, 9, w, false, api.EINVAL)
			b.unlock(0, 7, api.EPERM)
			b.unlock(0, 9, api.EPERM)
		}
		b.unlock(1, 7, api.OK)
		b.done(1, api.OK)
		b.done(2, api.OK)
		b.tells(7, nil, false, nil, nil, nil)
		b.stuck(false)
	}
}

// TestAgain: P14.1: a lock that the task holds gives EBUSY, to read and to write, whoever else holds it or waits for it; and it stays as it was taken.
func TestAgain(t *testing.T) {
	for _, w := range []bool{read, write} {
		for _, again := range []bool{read, write} {
			b := newBoth(t, 4)
			b.lock(1, 7, w, true, api.OK)
			b.lock(1, 7, again, false, api.EBUSY)
			b.tells(7, []int{1}, w, nil, []int{0, 1, 2, 3}, nil)
			b.lock(2, 7, write, false, api.OK)
			b.lock(1, 7, again, false, api.EBUSY)
			b.tells(7, []int{1}, w, []int{2}, []int{0, 1, 3}, []int{2})
			b.lock(1, 8, w, true, api.OK)
			b.lock(1, 8, again, false, api.EBUSY)
			b.unlock(1, 7, api.OK)
			b.lock(1, 7, again, false, api.OK) // it isn't held any more
			b.tells(7, []int{2}, true, []int{1}, []int{0, 2, 3}, []int{1})
		}
	}
}

// TestFirst: P14.1, R2: of several errors the first one is told: EINVAL ahead of EBUSY, and ahead of EPERM.
func TestFirst(t *testing.T) {
	b := newBoth(t, 2)
	b.lock(0, 7, read, true, api.OK)
	b.lock(1, 8, read, true, api.OK)
	b.lock(0, 8, write, false, api.OK)
	b.lock(0, 7, read, false, api.EINVAL) // it waits, and holds 7
	b.lock(0, 7, write, false, api.EINVAL)
	b.done(0, api.EINVAL) // so it is of its end
	b.unlock(0, 8, api.EPERM)
	b.unlock(2, 8, api.EINVAL) // there is none, so that it doesn't hold it either
	b.unlock(-1, 99, api.EINVAL)
}

// TestLocks: P14.1: any number is a lock's, and none is another's.
func TestLocks(t *testing.T) {
	b := newBoth(t, 3)
	for i, lock := range locks() {
		w := i%2 == 0
		b.lock(0, lock, w, true, api.OK)
		b.lock(0, lock, w, false, api.EBUSY)
		b.tells(lock, []int{0}, w, nil, []int{0, 1, 2}, nil)
	}
	for i, lock := range locks() {
		w := i%2 == 0
		b.lock(1, lock, write, false, api.OK)
		b.tells(lock, []int{0}, w, []int{1}, []int{0, 2}, []int{1})
		b.unlock(1, lock, api.EPERM)
		b.unlock(0, lock, api.OK)
		b.tells(lock, []int{1}, true, nil, []int{0, 1, 2}, nil)
		b.unlock(0, lock, api.EPERM)
		b.unlock(1, lock, api.OK)
	}
	b.done(0, api.OK)
	b.done(1, api.OK)
}

// TestReaders: P14.1, P14.2: several read at once, told in increasing order, and a writer waits till the last of them gives back.
func TestReaders(t *testing.T) {
	for _, order := range [][]int{{0, 1, 2, 3}, {3, 2, 1, 0}, {2, 0, 3, 1}} {
		b := newBoth(t, 6)
		for i, n := range order {
			b.lock(n, 7, read, true, api.OK)
			held := slices.Sorted(slices.Values(order[:i+1]))
			b.tells(7, held, false, nil, []int{0, 1, 2, 3, 4, 5}, nil)
		}
		b.lock(5, 7, write, false, api.OK)
		for i, n := range order {
			held := slices.Sorted(slices.Values(order[i:]))
			b.tells(7, held, false, []int{5}, []int{0, 1, 2, 3, 4}, []int{5})
			b.unlock(n, 7, api.OK)
		}
		b.tells(7, []int{5}, true, nil, []int{0, 1, 2, 3, 4, 5}, nil)
	}
}

// TestBehind: P14.1: a reader behind a waiting writer waits, though readers hold the lock; it comes behind the writer.
func TestBehind(t *testing.T) {
	b := newBoth(t, 5)
	b.lock(4, 7, read, true, api.OK)
	b.lock(3, 7, write, false, api.OK)
	b.lock(2, 7, read, false, api.OK)
	b.lock(0, 7, read, false, api.OK)
	b.tells(7, []int{4}, false, []int{3, 2, 0}, []int{1, 4}, []int{0, 2, 3})
	b.unlock(4, 7, api.OK)
	b.lock(4, 7, read, false, api.OK)
	b.tells(7, []int{3}, true, []int{2, 0, 4}, []int{1, 3}, []int{0, 2, 4})
	b.unlock(3, 7, api.OK)
	b.tells(7, []int{0, 2, 4}, false, nil, []int{0, 1, 2, 3, 4}, nil)
}

// TestWriters: P14.1: writers come one behind the other, in the order in which they asked.
func TestWriters(t *testing.T) {
	b := newBoth(t, 5)
	b.lock(2, 7, write, true, api.OK)
	for _, n := range []int{4, 0, 3, 1} {
		b.lock(n, 7, write, false, api.OK)
	}
	b.tells(7, []int{2}, true, []int{4, 0, 3, 1}, []int{2}, []int{0, 1, 3, 4})
	b.unlock(2, 7, api.OK)
	b.tells(7, []int{4}, true, []int{0, 3, 1}, []int{2, 4}, []int{0, 1, 3})
	b.unlock(4, 7, api.OK)
	b.lock(4, 7, write, false, api.OK)
	b.tells(7, []int{0}, true, []int{3, 1, 4}, []int{0, 2}, []int{1, 3, 4})
	for _, n := range []int{0, 3, 1, 4} {
		b.unlock(n, 7, api.OK)
	}
	b.tells(7, nil, false, nil, []int{0, 1, 2, 3, 4}, nil)
}

// TestBatch: P14.1: when the last holder gives back, all readers up to the next writer are admitted at once, or the one writer that is first.
func TestBatch(t *testing.T) {
	for _, first := range []bool{read, write} {
		b := newBoth(t, 8)
		b.lock(7, 9, first, true, api.OK)
		if first == read {
			b.lock(6, 9, write, false, api.OK)
			b.unlock(7, 9, api.OK)
			b.unlock(6, 9, api.OK)
			b.lock(7, 9, write, true, api.OK)
		}
		for _, n := range []int{5, 1, 3} {
			b.lock(n, 9, read, false, api.OK)
		}
		for _, n := range []int{4, 0} {
			b.lock(n, 9, write, false, api.OK)
		}
		b.lock(2, 9, read, false, api.OK)
		b.unlock(7, 9, api.OK)
		b.tells(9, []int{1, 3, 5}, false, []int{4, 0, 2}, []int{1, 3, 5, 6, 7}, []int{0, 2, 4})
		for _, n := range []int{1, 5, 3} {
			b.tells(9, b.p.held(9), false, []int{4, 0, 2}, []int{1, 3, 5, 6, 7}, []int{0, 2, 4})
			b.unlock(n, 9, api.OK)
		}
		b.tells(9, []int{4}, true, []int{0, 2}, []int{1, 3, 4, 5, 6, 7}, []int{0, 2})
		b.unlock(4, 9, api.OK)
		b.tells(9, []int{0}, true, []int{2}, []int{0, 1, 3, 4, 5, 6, 7}, []int{2})
		b.unlock(0, 9, api.OK)
		b.tells(9, []int{2}, false, nil, []int{0, 1, 2, 3, 4, 5, 6, 7}, nil)
	}
}

// TestAll: P14.1: all tasks that there may be ask for one lock, and get it: in their turn to write, at once to read.
func TestAll(t *testing.T) {
	for _, w := range []bool{read, write} {
		b := newBoth(t, 64)
		b.lock(63, 7, write, true, api.OK)
		for n := range 63 {
			b.lock(n, 7, w, false, api.OK)
		}
		b.unlock(63, 7, api.OK)
		for n := range 63 {
			want := 63 - n
			if w {
				want = 1
			}
			if held, _ := b.s.Holders(7); len(held) != want || held[0] != n {
				t.Errorf("Holders ahead of %d: %v", n, held)
			}
			b.unlock(n, 7, api.OK)
		}
		b.tells(7, nil, false, nil, b.p.at("ready"), nil)
	}
}

// TestUnlockWrong: P14.1: what the task does not hold it can't give back, whoever holds it or waits for it.
func TestUnlockWrong(t *testing.T) {
	b := newBoth(t, 5)
	b.unlock(0, 7, api.EPERM) // nobody's
	b.lock(0, 7, read, true, api.OK)
	b.unlock(1, 7, api.EPERM) // another one's
	b.lock(1, 7, read, true, api.OK)
	b.lock(2, 7, write, false, api.OK)
	b.lock(3, 8, write, true, api.OK)
	b.lock(4, 8, read, false, api.OK)
	for range 2 {
		b.unlock(2, 7, api.EPERM) // it waits for it
		b.unlock(2, 8, api.EPERM) // it waits for another one
		b.unlock(3, 7, api.EPERM) // it holds another one
		b.unlock(4, 7, api.EPERM)
		b.tells(7, []int{0, 1}, false, []int{2}, []int{0, 1, 3}, []int{2, 4})
		b.tells(8, []int{3}, true, []int{4}, []int{0, 1, 3}, []int{2, 4})
	}
	b.unlock(1, 7, api.OK)
	b.unlock(1, 7, api.EPERM) // given back already
	b.tells(7, []int{0}, false, []int{2}, []int{0, 1, 3}, []int{2, 4})
}

// TestPick: P14.2: the position in Ready is n modulo the number of ready tasks, from 0 on, also of an n below 0.
func TestPick(t *testing.T) {
	b := newBoth(t, 6)
	b.lock(0, 7, write, true, api.OK)
	b.lock(4, 7, write, false, api.OK)
	b.done(2, api.OK)
	ready := []int{0, 1, 3, 5}
	for n := -40; n < 40; n++ {
		if got, is := b.s.Pick(n); got != ready[(n+40)%4] || !is {
			t.Errorf("Pick(%d): %d, %t", n, got, is)
		}
	}
	for n, want := range map[int]int{math.MaxInt: 5, math.MaxInt - 1: 3, math.MinInt: 0, math.MinInt + 1: 1, math.MinInt + 7: 5} {
		if got, is := b.s.Pick(n); got != want || !is {
			t.Errorf("Pick(%d): %d, %t, want %d", n, got, is, want)
		}
	}
	for _, n := range []int{1, 3, 5} {
		b.done(n, api.OK)
	}
	for _, n := range []int{0, 1, -1, 2, math.MaxInt, math.MinInt} {
		if got, is := b.s.Pick(n); got != 0 || !is {
			t.Errorf("Pick(%d) of one: %d, %t", n, got, is)
		}
	}
	b.look()
}

// nobody holds a schedule without a ready task to what Pick tells.
func (b *both) nobody() {
	b.t.Helper()
	for _, n := range []int{0, 1, -1, 64, math.MaxInt, math.MinInt} {
		if got, is := b.s.Pick(n); got != 0 || is {
			b.t.Errorf("Pick(%d): %d, %t", n, got, is)
		}
	}
}

// TestStuck: P14.2: it is stuck where no task is ready and some wait, and not where all are done.
func TestStuck(t *testing.T) {
	b := newBoth(t, 2)
	b.lock(0, 7, write, true, api.OK)
	b.lock(1, 8, write, true, api.OK)
	b.lock(0, 8, read, false, api.OK)
	b.stuck(false)
	b.lock(1, 7, read, false, api.OK)
	b.stuck(true)
	b.nobody()
	b.tells(7, []int{0}, true, []int{1}, nil, []int{0, 1})
	b.unlock(0, 7, api.OK) // giving back needs nobody ready
	b.stuck(false)
	b.unlock(1, 7, api.OK)
	b.unlock(1, 8, api.OK)
	b.done(1, api.OK)
	b.unlock(0, 8, api.OK)
	b.stuck(false)
	b.done(0, api.OK)
	b.stuck(false)
	b.nobody()
}

// TestStuckBesides: P14.2: those that wait for each other are stuck, though others are done; so are readers, each of whom waits behind a writer that waits for the other one.
func TestStuckBesides(t *testing.T) {
	b := newBoth(t, 5)
	for n := range 3 {
		b.lock(n, n, write, true, api.OK)
	}
	b.done(3, api.OK)
	for n := range 3 {
		b.stuck(false)
		b.lock(n, (n+1)%3, read, false, api.OK)
	}
	b.stuck(false) // the last one can still go on
	b.done(4, api.OK)
	b.stuck(true)
	b.nobody()
	c := newBoth(t, 4)
	c.lock(0, 7, read, true, api.OK)
	c.lock(1, 8, read, true, api.OK)
	c.lock(2, 7, write, false, api.OK)
	c.lock(3, 8, write, false, api.OK)
	c.lock(0, 8, read, false, api.OK)
	c.stuck(false)
	c.lock(1, 7, read, false, api.OK)
	c.stuck(true)
	c.nobody()
	c.unlock(1, 8, api.OK)
	c.tells(8, []int{3}, true, []int{0}, []int{3}, []int{0, 1, 2})
	c.stuck(false)
}

// TestReturned: R3: what a caller does with a list that was returned changes nothing, nor another list.
func TestReturned(t *testing.T) {
	b := newBoth(t, 8)
	for n := range 3 {
		b.lock(n, 7, read, true, api.OK)
	}
	for n := 3; n < 6; n++ {
		b.lock(n, 7, write, false, api.OK)
	}
	held, _ := b.s.Holders(7)
	other, _ := b.s.Holders(7)
	lists := [][]int{held, b.s.Queue(7), b.s.Ready(), b.s.Waiting()}
	others := [][]int{other, b.s.Queue(7), b.s.Ready(), b.s.Waiting()}
	for _, all := range lists {
		slices.Reverse(all)
		_ = append(all[:1], 60, 61)
		spoil(all)
	}
	for i, want := range [][]int{{0, 1, 2}, {3, 4, 5}, {0, 1, 2, 6, 7}, {3, 4, 5}} {
		if !slices.Equal(others[i], want) {
			t.Errorf("list %d has changed: %v", i, others[i])
		}
	}
	b.tells(7, []int{0, 1, 2}, false, []int{3, 4, 5}, []int{0, 1, 2, 6, 7}, []int{3, 4, 5})
	for n := range 3 {
		b.unlock(n, 7, api.OK)
	}
	if !slices.Equal(others[1], []int{3, 4, 5}) {
		t.Errorf("a list that was returned has changed with the schedule: %v", others[1])
	}
	b.tells(7, []int{3}, true, []int{4, 5}, []int{0, 1, 2, 3, 6, 7}, []int{4, 5})
}

// TestApart: R4, R5: schedules are apart from each other, and the same calls return the same.
func TestApart(t *testing.T) {
	a, b := newBoth(t, 3), newBoth(t, 3)
	a.lock(0, 7, write, true, api.OK)
	a.done(1, api.OK)
	b.look()
	b.lock(1, 7, write, true, api.OK)
	a.lock(2, 7, read, false, api.OK)
	b.lock(2, 7, read, false, api.OK)
	b.unlock(1, 7, api.OK)
	a.look()
	b.look()
}

// TestKept: what nobody holds is forgotten, and the number of locks that are held changes nothing.
func TestKept(t *testing.T) {
	const many = 100000
	s := New(2)
	for lock := range many {
		if got, e := s.Lock(0, -lock, lock%2 == 0); !got || e != api.OK {
			t.Fatalf("Lock(0, %d): %t, %d", -lock, got, e)
		}
	}
	if e := s.Done(0); e != api.EBUSY {
		t.Errorf("Done: %d", e)
	}
	for lock := range many {
		if e := s.Unlock(0, -lock); e != api.OK {
			t.Fatalf("Unlock(0, %d): %d", -lock, e)
		}
		s.Holders(lock)
		s.Queue(lock)
		s.Unlock(1, lock)
	}
	if e := s.Done(0); e != api.OK || len(s.locks) != 0 {
		t.Errorf("Done: %d, and %d locks are kept", e, len(s.locks))
	}
}
