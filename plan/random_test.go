package plan

import (
	"math/rand/v2"
	"slices"
	"testing"

	"veneer/api"
	"veneer/sched"
)

// someWants is wants out of a few depths and numbers, so that many are of the same one.
func someWants(r *rand.Rand, most int) []Want {
	var l []Want
	span := 1 + r.IntN(8)
	for range r.IntN(most + 1) {
		l = append(l, Want{r.IntN(span) - span/2, r.IntN(span) - span/2, r.IntN(3) == 0})
	}
	return l
}

// TestEach: P15.1, P15.4: every list of up to four wants out of a few, and every two of up to two.
func TestEach(t *testing.T) {
	var few []Want
	for i := range 8 {
		few = append(few, Want{i%2 - 1, i/2%2 - 1, i/4 == 1})
	}
	lists, from := [][]Want{nil}, 0
	for range 4 {
		till := len(lists)
		for _, l := range lists[from:till] {
			for _, w := range few {
				lists = append(lists, append(slices.Clone(l), w))
			}
		}
		from = till
	}
	for _, l := range lists {
		again(t, order(t, l))
	}
	for _, a := range lists[:1+8+64] {
		for _, b := range lists[:1+8+64] {
			clash(t, a, b)
		}
	}
}

// again orders what is in order: it stays as it is.
func again(t *testing.T, ordered []Want) {
	t.Helper()
	if got := Order(ordered); !slices.Equal(got, ordered) {
		t.Fatalf("Order(%v), which is in order: %v", ordered, got)
	}
}

// TestRandom: P15.1, P15.4: lists of all lengths.
func TestRandom(t *testing.T) {
	r := rand.New(rand.NewPCG(15, 1))
	for range 5000 {
		a, b := someWants(r, 40), someWants(r, 40)
		again(t, order(t, a))
		if barred := clash(t, a, b); Clash(Order(a), Order(b)) != barred {
			t.Fatalf("Clash(%v, %v): otherwise than when they are in order", a, b)
		}
		r.Shuffle(len(b), func(i, j int) { b[i], b[j] = b[j], b[i] })
		clash(t, a, b)
	}
}

// TestSteady: P15.1: the order in which the wants were given doesn't show.
func TestSteady(t *testing.T) {
	r := rand.New(rand.NewPCG(15, 2))
	for range 500 {
		l := someWants(r, 20)
		want := Order(l)
		for range 10 {
			r.Shuffle(len(l), func(i, j int) { l[i], l[j] = l[j], l[i] })
			if got := Order(l); !slices.Equal(got, want) {
				t.Fatalf("Order(%v): %v, otherwise %v", l, got, want)
			}
		}
	}
}

// someCall is any call, or none, with any flags.
func someCall(r *rand.Rand) api.Call {
	return api.Call{Op: r.IntN(24) - 2, Fd: r.IntN(9) - 2, Flag: r.IntN(128) - 32, A: "a", B: "b"}
}

// TestRandomWants: P15.2, P15.3, P15.4: any call, with directories and files of few numbers.
func TestRandomWants(t *testing.T) {
	r := rand.New(rand.NewPCG(15, 3))
	for range 20000 {
		c, at := someCall(r), []int(nil)
		for range r.IntN(8) {
			at = append(at, r.IntN(9)-2)
		}
		kind(t, c)
		again(t, wants(t, c, at, r.IntN(9)-2))
	}
}

// TestBars: P15.2, P15.3: two calls that only read bar nobody, and two that change names in one directory bar each other.
func TestBars(t *testing.T) {
	at := []int{1, 5}
	for a := 1; a <= 20; a++ {
		for b := 1; b <= 20; b++ {
			x, y := api.Call{Op: a}, api.Call{Op: b}
			barred := clash(t, Wants(x, at, 0), Wants(y, at, 0))
			if want := kinds[a] == 2 || kinds[b] == 2; barred != want {
				t.Errorf("calls %d and %d: %t, want %t", a, b, barred, want)
			}
		}
	}
}

// goer is a task that takes what it wants, one lock after another, and then gives all of it back.
type goer struct {
	wants       []Want
	taken, back int
}

// turn lets a picked task take its next step; behind its last one it is done.
func turn(t *testing.T, s *sched.Sched, n int, g *goer) {
	t.Helper()
	e := api.OK
	switch {
	case g.taken < len(g.wants):
		w := g.wants[g.taken]
		g.taken++
		_, e = s.Lock(n, w.Ino, w.Write)
	case g.back < len(g.wants):
		w := g.wants[g.back]
		g.back++
		e = s.Unlock(n, w.Ino)
	default:
		e = s.Done(n)
	}
	if e != api.OK {
		t.Fatalf("task %d with %v, %d taken, %d back: %d", n, g.wants, g.taken, g.back, e)
	}
}

// through picks till no task is ready, and tells how many picks that took.
func through(t *testing.T, s *sched.Sched, goers []goer, pick func(i int) int) int {
	t.Helper()
	for i := 0; ; i++ {
		n, is := s.Pick(pick(i))
		if !is {
			return i
		}
		turn(t, s, n, &goers[n])
	}
}

// all lets tasks with these wants go on till none is ready, and tells whether all of them came to an end.
func all(t *testing.T, lists [][]Want, pick func(i int) int) bool {
	t.Helper()
	goers, steps := make([]goer, len(lists)), 0
	for n, l := range lists {
		goers[n].wants = l
		steps += 2*len(l) + 1
	}
	s := sched.New(len(lists))
	took := through(t, s, goers, pick)
	ended := took == steps && len(s.Waiting()) == 0
	if ended == s.Stuck() {
		t.Fatalf("%d steps of %d, waiting %v, stuck %t", took, steps, s.Waiting(), s.Stuck())
	}
	return ended
}

// ways are ways to pick.
func ways(r *rand.Rand) []func(i int) int {
	return []func(i int) int{
		func(i int) int { return 0 },
		func(i int) int { return -1 },
		func(i int) int { return i },
		func(i int) int { return -i * 7 },
		func(i int) int { return r.IntN(1000) - 500 },
	}
}

// TestNeverStuck: P15.4: tasks that take what they want in the lock order come to an end, whoever is picked, as each number has one depth.
func TestNeverStuck(t *testing.T) {
	r := rand.New(rand.NewPCG(15, 4))
	picks := ways(r)
	for round := range 400 {
		// Depths fall while numbers rise, or go any way: the order isn't the numbers' own.
		numbers := 1 + r.IntN(9)
		deep := r.Perm(numbers)
		if round%3 == 0 {
			deep = make([]int, numbers)
		}
		lists := make([][]Want, 1+r.IntN(64))
		for n := range lists {
			var l []Want
			for range r.IntN(numbers + 3) {
				ino := r.IntN(numbers)
				l = append(l, Want{deep[ino] - 2, ino - numbers/2, r.IntN(2) == 0})
			}
			lists[n] = Order(l)
		}
		if !all(t, lists, picks[round%len(picks)]) {
			t.Fatalf("stuck: %v", lists)
		}
	}
}

// TestNeverStuckEach: P15.4: two tasks with three wants each, given in any order, whoever is picked at each step.
func TestNeverStuckEach(t *testing.T) {
	deep := []int{4, 0, 2}
	for first := range 27 {
		for second := range 27 {
			var lists [][]Want
			for _, rest := range []int{first, second} {
				var l []Want
				for range 3 {
					ino := rest % 3
					l = append(l, Want{deep[ino], ino, write})
					rest /= 3
				}
				lists = append(lists, Order(l))
			}
			for picks := range 1 << 7 {
				if !all(t, lists, func(i int) int { return picks >> i & 1 }) {
					t.Fatalf("picks %d: stuck: %v", picks, lists)
				}
			}
		}
	}
}

// TestCallsNeverStuck: P15.4: tasks with the wants of calls that go down one tree.
func TestCallsNeverStuck(t *testing.T) {
	r := rand.New(rand.NewPCG(15, 5))
	picks := ways(r)
	for round := range 300 {
		lists := make([][]Want, 1+r.IntN(64))
		for n := range lists {
			// Below the number k are 2k and 2k+1, so that each number has one depth.
			at := []int{1}
			for range r.IntN(4) {
				at = append(at, at[len(at)-1]*2+r.IntN(2))
			}
			lists[n] = Wants(someCall(r), at, r.IntN(2)*(at[len(at)-1]*2+r.IntN(2)))
		}
		if !all(t, lists, picks[round%len(picks)]) {
			t.Fatalf("stuck: %v", lists)
		}
	}
}

// TestStuck: P15.4: it is the order that does it: wants that two tasks take in two orders end stuck under some picks.
func TestStuck(t *testing.T) {
	one, two := Want{0, 1, write}, Want{1, 2, write}
	stuck := 0
	for picks := range 1 << 8 {
		if !all(t, [][]Want{{one, two}, {two, one}}, func(i int) int { return picks >> i & 1 }) {
			stuck++
		}
	}
	if stuck == 0 || stuck == 1<<8 {
		t.Errorf("%d of 256 orders are stuck", stuck)
	}
}
