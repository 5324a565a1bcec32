package sched

import (
	"math/rand/v2"
	"slices"
	"strconv"
	"testing"

	"veneer/api"
)

// few is all calls of so many tasks on so many locks.
func few(tasks, locks int) []func(*both) {
	var all []func(*both)
	for task := range tasks {
		all = append(all, func(b *both) { b.tryDone(task) })
		for lock := range locks {
			all = append(all,
				func(b *both) { b.tryLock(task, lock, read) },
				func(b *both) { b.tryLock(task, lock, write) },
				func(b *both) { b.tryUnlock(task, lock) },
			)
		}
	}
	return all
}

// TestEach: P14.1, P14.2: every list of calls out of a few.
func TestEach(t *testing.T) {
	for _, size := range []struct{ tasks, locks, long int }{{1, 2, 5}, {2, 1, 5}, {2, 2, 4}, {3, 1, 5}} {
		calls := few(size.tasks, size.locks)
		lists := 1
		for range size.long {
			lists *= len(calls)
		}
		for list := range lists {
			b := &both{t, New(size.tasks), newPlain(size.tasks)}
			for rest, i := list, 0; i < size.long; rest, i = rest/len(calls), i+1 {
				calls[rest%len(calls)](b)
			}
			b.look()
		}
	}
}

// TestRandom: P14.1, P14.2: many calls in any order, by few tasks and by many.
func TestRandom(t *testing.T) {
	r := rand.New(rand.NewPCG(14, 1))
	for _, tasks := range []int{1, 2, 3, 5, 20, 64} {
		for range 20 {
			b := newBoth(t, tasks)
			locks := 1 + r.IntN(4)
			for range 400 {
				task, lock := r.IntN(tasks+2)-1, r.IntN(locks)-1
				switch r.IntN(12) {
				case 0, 1, 2, 3:
					b.tryLock(task, lock, r.IntN(3) == 0)
				case 4, 5, 6, 7, 8, 9:
					b.tryUnlock(task, lock)
				case 10:
					b.look()
				default:
					if r.IntN(20) == 0 {
						b.tryDone(task)
					}
				}
			}
			b.look()
		}
	}
}

// TestTurns: P14.3: by what the schedule tells alone: who writes holds a lock alone, who came first is admitted first, and nobody waits who could be admitted.
func TestTurns(t *testing.T) {
	r := rand.New(rand.NewPCG(14, 3))
	for range 100 {
		s, writes := New(12), map[int]bool{}
		for range 300 {
			task, came := r.IntN(12), s.Queue(7)
			if w := r.IntN(2) == 0; r.IntN(2) == 0 {
				if _, e := s.Lock(task, 7, w); e == api.OK {
					came = append(came, task)
					writes[task] = w
				}
			} else {
				s.Unlock(task, 7)
			}
			after := s.Queue(7)
			held, w := s.Holders(7)
			// Those that still wait are the last of those that did.
			if !slices.Equal(after, came[len(came)-len(after):]) {
				t.Fatalf("%v waited, then %v", came, after)
			}
			for _, n := range came[:len(came)-len(after)] {
				if !slices.Contains(held, n) {
					t.Fatalf("%d waits no more, and doesn't hold", n)
				}
			}
			for _, n := range held {
				if w != writes[n] || w && len(held) != 1 {
					t.Fatalf("held by %v, to write %t", held, w)
				}
			}
			if len(after) > 0 && (len(held) == 0 || !w && !writes[after[0]]) {
				t.Fatalf("%v wait, and %v hold, to write %t", after, held, w)
			}
		}
	}
}

// step is a lock to take, to read or to write, or one to give back.
type step struct {
	lock        int
	write, back bool
}

// goer is a task that goes through its steps.
type goer struct {
	steps []step
	next  int
}

// rising is a task's steps: it takes some locks by rising numbers, gives some of them back between, and all at the end.
func rising(r *rand.Rand, locks int) []step {
	var steps []step
	var held []int
	back := func() {
		i := r.IntN(len(held))
		steps = append(steps, step{lock: held[i], back: true})
		held = slices.Delete(held, i, i+1)
	}
	for lock := range locks {
		if r.IntN(2) == 0 {
			steps = append(steps, step{lock: lock - locks/2, write: r.IntN(2) == 0})
			held = append(held, lock-locks/2)
		}
		if len(held) > 0 && r.IntN(4) == 0 {
			back()
		}
	}
	for len(held) > 0 {
		back()
	}
	return steps
}

// turn lets a picked task take its next step; behind its last one it is done.
func turn(t *testing.T, s *Sched, n int, g *goer) {
	t.Helper()
	if g.next == len(g.steps) {
		if e := s.Done(n); e != api.OK {
			t.Fatalf("Done(%d): %d", n, e)
		}
		return
	}
	x := g.steps[g.next]
	g.next++
	if x.back {
		if e := s.Unlock(n, x.lock); e != api.OK {
			t.Fatalf("Unlock(%d, %d): %d", n, x.lock, e)
		}
		return
	}
	if _, e := s.Lock(n, x.lock, x.write); e != api.OK {
		t.Fatalf("Lock(%d, %d): %d", n, x.lock, e)
	}
}

// through picks till no task is ready, and tells how many picks that took.
func through(t *testing.T, s *Sched, goers []goer, pick func(i int) int) int {
	t.Helper()
	for i := 0; ; i++ {
		n, is := s.Pick(pick(i))
		if !is {
			return i
		}
		turn(t, s, n, &goers[n])
	}
}

// TestRising: P14.3: tasks that take their locks by rising numbers, and give them back, are never stuck, whoever is picked, and all come to an end.
func TestRising(t *testing.T) {
	r := rand.New(rand.NewPCG(14, 4))
	picks := []func(i int) int{
		func(i int) int { return 0 },
		func(i int) int { return -1 },
		func(i int) int { return i },
		func(i int) int { return -i * 7 },
		func(i int) int { return r.IntN(1000) - 500 },
	}
	for round := range 300 {
		tasks := 1 + r.IntN(64)
		locks := 1 + r.IntN(8)
		goers, steps := make([]goer, tasks), tasks
		for n := range goers {
			goers[n].steps = rising(r, locks)
			steps += len(goers[n].steps)
		}
		s := New(tasks)
		if took := through(t, s, goers, picks[round%len(picks)]); took != steps {
			t.Errorf("%d steps took %d picks", steps, took)
		}
		if s.Stuck() || len(s.Waiting()) != 0 || len(s.Ready()) != 0 || len(s.locks) != 0 {
			t.Fatalf("%d tasks, %d locks: stuck %t, waiting %v, locks %v", tasks, locks, s.Stuck(), s.Waiting(), s.locks)
		}
	}
}

// TestRisingEach: P14.3: three tasks with two locks each, picked in every order.
func TestRisingEach(t *testing.T) {
	modes := []bool{read, write}
	plan := func(a, b bool) []step {
		return []step{{lock: -1, write: a}, {lock: 4, write: b}, {lock: 4, back: true}, {lock: -1, back: true}}
	}
	for kinds := range 8 {
		for order := range 3 * 3 * 3 * 3 * 3 * 3 * 3 {
			goers := make([]goer, 3)
			for n := range goers {
				goers[n].steps = plan(modes[kinds>>n&1], modes[kinds>>(2-n)&1])
			}
			rest, s := order, New(3)
			took := through(t, s, goers, func(int) int {
				n := rest % 3
				rest /= 3
				return n
			})
			if took != 15 || s.Stuck() || len(s.Waiting()) != 0 {
				t.Fatalf("kinds %d, order %s: %d picks, waiting %v", kinds, strconv.FormatInt(int64(order), 3), took, s.Waiting())
			}
		}
	}
}

// TestFalling: P14.2: where one task takes its locks by falling numbers, some orders end stuck, and Stuck tells it of these and of no others.
func TestFalling(t *testing.T) {
	stuck := 0
	for order := range 256 {
		goers := []goer{
			{steps: []step{{lock: 1, write: true}, {lock: 2, write: true}, {lock: 2, back: true}, {lock: 1, back: true}}},
			{steps: []step{{lock: 2, write: true}, {lock: 1, write: true}, {lock: 1, back: true}, {lock: 2, back: true}}},
		}
		rest, s := order, New(2)
		took := through(t, s, goers, func(int) int {
			n := rest % 2
			rest /= 2
			return n
		})
		if s.Stuck() != (took < 10) || s.Stuck() != slices.Equal(s.Waiting(), []int{0, 1}) {
			t.Fatalf("order %d: %d picks, stuck %t, waiting %v", order, took, s.Stuck(), s.Waiting())
		}
		if s.Stuck() {
			stuck++
		}
	}
	if stuck == 0 || stuck == 256 {
		t.Errorf("%d of 256 orders are stuck", stuck)
	}
}
