package hist

import (
	"math"
	"math/rand/v2"
	"slices"
	"strings"
	"testing"

	"veneer/api"
	"veneer/flat"
	"veneer/tree"
)

// events are all events with times out of a few.
func events(from, at, to []int64) []Event {
	var all []Event
	for _, f := range from {
		for _, a := range at {
			for _, t := range to {
				all = append(all, Event{From: f, At: a, To: t}, Event{From: f, At: a, To: t, Back: true})
			}
		}
	}
	return all
}

// TestEach: P17.1: every event, every two and every three of them, with times out of a few.
func TestEach(t *testing.T) {
	all := events([]int64{-1, 0, 1, 2, 3}, []int64{-1, 0, 1, 2, 3}, []int64{-1, 0, 1, 2, 3})
	few := events([]int64{0, 1, 2}, []int64{0, 1, 2, 3}, []int64{2})
	for _, x := range all {
		order(t, []Event{x})
		for _, y := range all {
			order(t, []Event{x, y})
		}
	}
	for _, x := range few {
		for _, y := range few {
			for _, z := range few {
				order(t, []Event{x, y, z})
			}
		}
	}
}

// TestEachOrder: P17.1, P17.2: five calls of which each needs the ones ahead of it, at all times and in all places of l.
func TestEachOrder(t *testing.T) {
	calls := []api.Call{of(api.OpMkdir, "a"), of(api.OpMkdir, "a/b"), two(api.OpRename, "a/b", "c"), of(api.OpRmdir, "a"), of(api.OpMkdir, "a")}
	perms(len(calls), func(times []int) {
		var l []Event
		for i, n := range times {
			l = append(l, did(int64(n+1), calls[i], ok))
		}
		check(t, nil, l)
		perms(len(calls), func(places []int) {
			placed := make([]Event, len(l))
			for i, at := range places {
				placed[at] = l[i]
			}
			is, i := Check(nil, placed)
			if was, j := Check(nil, l); is != was || j >= 0 && i != places[j] || j < 0 && i != -1 {
				t.Fatalf("%s: %t, %d; placed %v: %t, %d", told(l), was, j, places, is, i)
			}
		})
	})
}

// perms hands out the orders of the first numbers, one after the other.
func perms(n int, use func([]int)) {
	var grow func(some []int)
	grow = func(some []int) {
		if len(some) == n {
			use(some)
			return
		}
		for i := range n {
			if !slices.Contains(some, i) {
				grow(append(some[:len(some):len(some)], i))
			}
		}
	}
	grow(nil)
}

// between is a number from one to another one.
func between(r *rand.Rand, low, high int64) int64 { return low + r.Int64N(high-low+1) }

// TestRandomTimes: P17.1, P17.2: events at times of which some are not consistent or the same, with results of which some are wrong.
func TestRandomTimes(t *testing.T) {
	r := rand.New(rand.NewPCG(17, 1))
	for range 6000 {
		low, high := int64(1), between(r, 3, 60)
		if r.IntN(4) == 0 {
			low, high = 1<<62, math.MaxInt64
		}
		var l []Event
		for range r.IntN(9) {
			e := Event{Task: r.IntN(3), C: someCall(r), R: pick(r, ok, ok, fails(pick(r, errnos()...))), From: between(r, low, high), Back: r.IntN(2) == 0}
			if e.Back || r.IntN(3) > 0 {
				e.At = between(r, e.From, high)
				e.To = between(r, e.At, high)
			}
			switch r.IntN(60) {
			case 0:
				e.From = -e.From
			case 1:
				e.At = 0
			case 2:
				e.At, e.From = e.From, e.At
			case 3:
				e.To, e.At = e.At, e.To
			}
			l = append(l, e)
		}
		check(t, everyTree(), l)
		lines(t, everyTree(), l)
	}
}

// pick is one of some.
func pick[T any](r *rand.Rand, some ...T) T { return some[r.IntN(len(some))] }

// somePath is a path of few names.
func somePath(r *rand.Rand) string {
	text := pick(r, "", "", "/", "./")
	for i := range 1 + r.IntN(3) {
		if i > 0 {
			text += pick(r, "/", "/", "/", "//", "/../")
		}
		text += pick(r, "a", "a", "b", "b", "c", "d", "d", "f", "l", "..")
	}
	return text + pick(r, "", "", "", "", "/")
}

// someCall is a call that may well do something.
func someCall(r *rand.Rand) api.Call {
	c := api.Call{Op: 1 + r.IntN(20), Fd: r.IntN(6), Flag: pick(r, 1, 3, 3, 7, 7, 7, 15, 19, 34, 39, r.IntN(64)), N: int64(r.IntN(40)), Off: int64(r.IntN(60)), A: somePath(r), B: somePath(r)}
	switch c.Op {
	case api.OpWrite, api.OpPwrite:
		c.A = strings.Repeat(string(rune('a'+r.IntN(26))), r.IntN(40))
	case api.OpSeek:
		c.Flag, c.Off = r.IntN(3), c.Off-20
	}
	if r.IntN(40) == 0 {
		c.Op = r.IntN(24) - 2
	}
	return c
}

// executed has a model do calls one after the other, and tells them as events at the times 1, 2, 3 and so on, and the model.
func executed(t *testing.T, r *rand.Rand, at []api.Line, n int) ([]Event, *tree.System) {
	t.Helper()
	b, e := flat.Tree(at, api.MaxRoom)
	if e != api.OK {
		t.Fatalf("no branch: %d", e)
	}
	s := tree.New(b)
	var l []Event
	for i := range n {
		c := someCall(r)
		l = append(l, Event{Task: r.IntN(64), C: c, R: s.Do(c), From: int64(i + 1), At: int64(i + 1), To: int64(i + 1), Back: true})
	}
	return l, s
}

// stretched are the same events with other times, in the same order of At, that are consistent.
func stretched(r *rand.Rand, l []Event) []Event {
	time := int64(0)
	l = slices.Clone(l)
	for i := range l {
		time += 1 + r.Int64N(pick[int64](r, 1, 3, 1000, 1<<40))
		l[i].At = time
		l[i].From = pick(r, 1, time, 1+r.Int64N(time))
		l[i].To = time + pick(r, 0, r.Int64N(9), r.Int64N(1<<50))
	}
	return l
}

// unfinished are the same events, of which some have not returned: whatever is told of their results and of To is of no account.
func unfinished(r *rand.Rand, l []Event) []Event {
	l = slices.Clone(l)
	for i := range l {
		if r.IntN(3) == 0 && l[i].R.E != api.ENOSPC {
			l[i].Back = false
			l[i].To = pick(r, 0, l[i].To, -5, l[i].At-1)
			l[i].R = pick(r, l[i].R, ok, fails(api.EROFS), api.Result{N: 9, S: "x"})
		}
	}
	return l
}

// mixed are the same events in any order, with some between them that have not taken effect, and where each event of l is.
func mixed(r *rand.Rand, l []Event) ([]Event, []int) {
	all := slices.Clone(l)
	for range r.IntN(5) {
		all = append(all, Event{C: someCall(r), R: fails(pick(r, errnos()...)), From: 1 + r.Int64N(1<<40), To: r.Int64N(9)})
	}
	places := r.Perm(len(all))
	got := make([]Event, len(all))
	for i, at := range places {
		got[at] = all[i]
	}
	return got, places
}

// trees are lines of trees ahead of events.
func trees() [][]api.Line {
	return [][]api.Line{nil, everyTree(), {dir("/a"), dir("/a/b"), file("/a/b/c", "abc"), link("/b", "a/b"), file("/d", strings.Repeat("z", 50))}, crowded(3)}
}

// accepted holds Check and Lines to accept events, behind which there are these lines.
func accepted(t *testing.T, at []api.Line, l []Event, want []api.Line) {
	t.Helper()
	if is, i := Check(at, l); !is || i != -1 {
		t.Fatalf("Check: %t, %d of %s", is, i, told(l[max(0, i):]))
	}
	if got, is := Lines(at, l); !slices.Equal(got, want) || !is {
		t.Fatalf("Lines: %v, %t; want %v", got, is, want)
	}
}

// TestExecuted: P17.3: events that the model executed one after the other are accepted, whatever their consistent times, also if some have not returned, and whatever their order in l. A single other result is found.
func TestExecuted(t *testing.T) {
	for seed := range uint64(200) {
		r := rand.New(rand.NewPCG(17, 100+seed))
		at := trees()[seed%4]
		l, s := executed(t, r, at, 1+r.IntN(120))
		want := plainLines(s.Branch())
		accepted(t, at, l, want)
		for range 5 {
			accepted(t, at, stretched(r, l), want)
			all, places := mixed(r, unfinished(r, stretched(r, l)))
			accepted(t, at, all, want)
			check(t, at, all)
			lines(t, at, all)
			wrongAnywhere(t, r, at, all, places[:len(l)])
		}
	}
}

// wrongAnywhere makes one result wrong, and then another one: the first of them in the order of the calls is found. The places are those of the calls, in their order.
func wrongAnywhere(t *testing.T, r *rand.Rand, at []api.Line, l []Event, places []int) {
	t.Helper()
	l = slices.Clone(l)
	first := len(places)
	for _, n := range r.Perm(len(places))[:min(2, len(places))] {
		e := &l[places[n]]
		was := e.R
		pick(r, changes()...)(&e.R)
		switch {
		case was.E == api.ENOSPC || e.R.E == api.ENOSPC:
			e.R = was // what is skipped, or would be, is another thing
		case e.Back && e.R != was:
			first = min(first, n)
		}
	}
	want, right := -1, true
	if first < len(places) {
		want, right = places[first], false
	}
	if is, i := Check(at, l); is != right || i != want {
		t.Fatalf("with other results: %t, %d; want %d of %s", is, i, want, told(l))
	}
}

// fullCall is a call where there is little room: mostly a write to descriptor 0, or a cut that gives or takes a few chunks.
func fullCall(r *rand.Rand) api.Call {
	c := someCall(r)
	switch {
	case r.IntN(3) == 0:
		c = api.Call{Op: api.OpPwrite, A: strings.Repeat("b", 1+r.IntN(60)), Off: int64(r.IntN(300))}
	case r.IntN(6) == 0:
		c = api.Call{Op: api.OpCut, A: pick(r, "3", "5", "new"), Off: pick(r, int64(r.IntN(300)), int64(65500+r.IntN(36)))}
	case c.Op == api.OpClose:
		c.Fd = 7 // 0 stays open
	}
	if c.Op == api.OpCut && c.A != "new" {
		c.Off = max(c.Off, 65500)
	}
	return c
}

// TestExecutedFull: P17.3: also where the model had no room, or wrote fewer bytes: events without room are skipped, and the others are right as before.
func TestExecutedFull(t *testing.T) {
	for seed := range uint64(4) {
		r := rand.New(rand.NewPCG(17, 2+seed))
		at := full(48)
		b, _ := flat.Tree(at, api.MaxRoom)
		s := tree.New(b)
		var l []Event
		fulls, fewer := 0, 0
		for i := range 150 {
			c := fullCall(r)
			if i == 0 {
				c = open(api.FlagRead|api.FlagWrite|api.FlagCreate, "new")
			}
			x := s.Do(c)
			if x.E == api.ENOSPC {
				fulls++
			}
			if c.Op == api.OpPwrite && x.E == api.OK && x.N < int64(len(c.A)) {
				fewer++
			}
			l = append(l, did(int64(i+1), c, x))
		}
		if fulls == 0 || fewer == 0 {
			t.Errorf("%d without room, %d fewer bytes", fulls, fewer)
		}
		want := plainLines(s.Branch())
		for range 3 {
			all, _ := mixed(r, unfinished(r, stretched(r, l)))
			accepted(t, at, all, want)
		}
	}
}

// TestAnyTimes: P17.3: the times around those at which calls took effect make no difference, as long as they are consistent; without that, the event is told.
func TestAnyTimes(t *testing.T) {
	r := rand.New(rand.NewPCG(17, 3))
	for range 40 {
		l, s := executed(t, r, everyTree(), 30)
		l = stretched(r, l)
		want := plainLines(s.Branch())
		for i := range l {
			was := l[i]
			for _, x := range []struct {
				from, to int64
				right    bool
			}{
				{1, was.At, true}, {was.At, was.At, true}, {1, 1<<63 - 1, true}, {was.At, 1<<63 - 1, true},
				{0, was.At, false}, {-1, was.At, false}, {was.At + 1, 1<<63 - 1, false}, {1, was.At - 1, false}, {1, -1 << 63, false},
			} {
				l[i].From, l[i].To = x.from, x.to
				if x.right {
					accepted(t, everyTree(), l, want)
				} else if is, bad := Check(everyTree(), l); is || bad != i {
					t.Fatalf("%s: %t, %d; want %d", told(l[i:i+1]), is, bad, i)
				}
			}
			l[i] = was
		}
	}
}
