package sched

import (
	"maps"
	"math"
	"slices"
	"testing"

	"veneer/api"
)

// plain is a schedule told the plainest way: what tasks are at, in words, and each lock's holders, with whether they write, and those that wait.
type plain struct {
	tasks   []string
	holders map[int]map[int]bool
	queues  map[int][]ask
}

// ask is one that waits.
type ask struct {
	task  int
	write bool
}

func newPlain(tasks int) *plain {
	p := &plain{holders: map[int]map[int]bool{}, queues: map[int][]ask{}}
	for range tasks {
		p.tasks = append(p.tasks, "ready")
	}
	return p
}

func (p *plain) there(task int) bool { return 0 <= task && task < len(p.tasks) }

func (p *plain) lock(task, lock int, write bool) (bool, api.Errno) {
	if !p.there(task) || p.tasks[task] != "ready" {
		return false, api.EINVAL
	}
	if _, has := p.holders[lock][task]; has {
		return false, api.EBUSY
	}
	p.tasks[task] = "waiting"
	p.queues[lock] = append(p.queues[lock], ask{task, write})
	p.admit(lock)
	_, has := p.holders[lock][task]
	return has, api.OK
}

func (p *plain) unlock(task, lock int) api.Errno {
	if !p.there(task) {
		return api.EINVAL
	}
	if _, has := p.holders[lock][task]; !has {
		return api.EPERM
	}
	delete(p.holders[lock], task)
	p.admit(lock)
	return api.OK
}

// admit goes by the words of the chapter, one task at a time.
func (p *plain) admit(lock int) {
	for len(p.queues[lock]) > 0 {
		first := p.queues[lock][0]
		if len(p.holders[lock]) != 0 && (first.write || p.written(lock)) {
			return
		}
		p.queues[lock] = p.queues[lock][1:]
		p.tasks[first.task] = "ready"
		if p.holders[lock] == nil {
			p.holders[lock] = map[int]bool{}
		}
		p.holders[lock][first.task] = first.write
	}
}

func (p *plain) written(lock int) bool {
	for _, write := range p.holders[lock] {
		if write {
			return true
		}
	}
	return false
}

func (p *plain) done(task int) api.Errno {
	if !p.there(task) || p.tasks[task] != "ready" {
		return api.EINVAL
	}
	for _, holders := range p.holders {
		if _, has := holders[task]; has {
			return api.EBUSY
		}
	}
	p.tasks[task] = "done"
	return api.OK
}

// at is the tasks that are at something.
func (p *plain) at(what string) []int {
	var all []int
	for n, w := range p.tasks {
		if w == what {
			all = append(all, n)
		}
	}
	return all
}

func (p *plain) held(lock int) []int {
	return slices.Sorted(maps.Keys(p.holders[lock]))
}

func (p *plain) queue(lock int) []int {
	var all []int
	for _, a := range p.queues[lock] {
		all = append(all, a.task)
	}
	return all
}

// pick counts on from a ready task to the next one, and behind the last one begins anew.
func (p *plain) pick(n int) (int, bool) {
	all := p.at("ready")
	if len(all) == 0 {
		return 0, false
	}
	var at int
	for at = n % len(all); at < 0; at += len(all) {
	}
	return all[at], true
}

func (p *plain) stuck() bool {
	some := false
	for _, w := range p.tasks {
		if w == "ready" {
			return false
		}
		some = some || w != "done"
	}
	return some
}

// both is a schedule and the plain one beside it: each call is made on both, and what they answer held together. What is returned is spoilt, and nothing may change with it.
type both struct {
	t *testing.T
	s *Sched
	p *plain
}

func newBoth(t *testing.T, tasks int) *both {
	t.Helper()
	s := New(tasks)
	if s == nil {
		t.Fatalf("New(%d): nil", tasks)
	}
	b := &both{t, s, newPlain(tasks)}
	b.look()
	return b
}

// lock locks on both, and holds what is told to what is wanted.
func (b *both) lock(task, lock int, write, want bool, f api.Errno) {
	b.t.Helper()
	if got, e := b.tryLock(task, lock, write); got != want || e != f {
		b.t.Fatalf("Lock(%d, %d, %t): %t, %d, want %t, %d", task, lock, write, got, e, want, f)
	}
	b.look()
}

func (b *both) unlock(task, lock int, f api.Errno) {
	b.t.Helper()
	if e := b.tryUnlock(task, lock); e != f {
		b.t.Fatalf("Unlock(%d, %d): %d, want %d", task, lock, e, f)
	}
	b.look()
}

func (b *both) done(task int, f api.Errno) {
	b.t.Helper()
	if e := b.tryDone(task); e != f {
		b.t.Fatalf("Done(%d): %d, want %d", task, e, f)
	}
	b.look()
}

// tryLock, tryUnlock and tryDone hold the schedule to the plain one alone, and don't look at all of it.
func (b *both) tryLock(task, lock int, write bool) (bool, api.Errno) {
	b.t.Helper()
	got, e := b.s.Lock(task, lock, write)
	if want, f := b.p.lock(task, lock, write); got != want || e != f {
		b.t.Fatalf("Lock(%d, %d, %t): %t, %d, want %t, %d", task, lock, write, got, e, want, f)
	}
	return got, e
}

func (b *both) tryUnlock(task, lock int) api.Errno {
	b.t.Helper()
	e := b.s.Unlock(task, lock)
	if f := b.p.unlock(task, lock); e != f {
		b.t.Fatalf("Unlock(%d, %d): %d, want %d", task, lock, e, f)
	}
	return e
}

func (b *both) tryDone(task int) api.Errno {
	b.t.Helper()
	e := b.s.Done(task)
	if f := b.p.done(task); e != f {
		b.t.Fatalf("Done(%d): %d, want %d", task, e, f)
	}
	return e
}

// spoil changes a list, and what it has room for behind it.
func spoil(all []int) {
	all = all[:cap(all)]
	for i := range all {
		all[i] = -7
	}
}

// same holds a list to the one that is wanted, and then spoils it.
func (b *both) same(what string, got, want []int) {
	b.t.Helper()
	if !slices.Equal(got, want) {
		b.t.Fatalf("%s: %v, want %v", what, got, want)
	}
	spoil(got)
}

// someLocks are the locks that the tests take, and some that they don't.
func (b *both) someLocks() []int {
	all := []int{-1, 0, 1, 7, 8, math.MinInt, math.MaxInt}
	for lock := range b.p.queues {
		all = append(all, lock, lock+1)
	}
	slices.Sort(all)
	return slices.Compact(all)
}

// look holds all that both tell together, twice: what it spoils of the first answers must not be seen in the second ones.
func (b *both) look() {
	b.t.Helper()
	for range 2 {
		b.same("Ready", b.s.Ready(), b.p.at("ready"))
		b.same("Waiting", b.s.Waiting(), b.p.at("waiting"))
		for _, lock := range b.someLocks() {
			held, write := b.s.Holders(lock)
			if want := b.p.written(lock); write != want {
				b.t.Fatalf("Holders(%d): to write %t, want %t", lock, write, want)
			}
			b.same("Holders", held, b.p.held(lock))
			b.same("Queue", b.s.Queue(lock), b.p.queue(lock))
		}
		for _, n := range []int{0, 1, 2, 5, -1, -2, -7, 64, math.MinInt, math.MaxInt} {
			got, is := b.s.Pick(n)
			if want, f := b.p.pick(n); got != want || is != f {
				b.t.Fatalf("Pick(%d): %d, %t, want %d, %t", n, got, is, want, f)
			}
		}
		if got, want := b.s.Stuck(), b.p.stuck(); got != want {
			b.t.Fatalf("Stuck: %t, want %t", got, want)
		}
	}
}
