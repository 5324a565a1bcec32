package hist

import (
	"math"
	"slices"
	"strconv"
	"strings"
	"testing"

	"veneer/api"
)

// going is an event that has not returned.
func going(from, at int64) Event { return Event{From: from, At: at} }

// back is one that has.
func back(from, at, to int64) Event { return Event{From: from, At: at, To: to, Back: true} }

// did is an event that was called, took effect and returned at one time.
func did(time int64, c api.Call, r api.Result) Event {
	return Event{C: c, R: r, From: time, At: time, To: time, Back: true}
}

func of(op int, a string) api.Call     { return api.Call{Op: op, A: a} }
func on(op, fd int) api.Call           { return api.Call{Op: op, Fd: fd} }
func two(op int, a, b string) api.Call { return api.Call{Op: op, A: a, B: b} }
func open(flag int, a string) api.Call { return api.Call{Op: api.OpOpen, Flag: flag, A: a} }
func fails(e api.Errno) api.Result     { return api.Result{E: e} }

// statOf is a result that tells a stat.
func statOf(kind, size, n int) api.Result {
	return api.Result{T: api.Stat{Kind: kind, Size: size, Link: n}}
}

func dir(p string) api.Line        { return api.Line{Path: p, Kind: api.Dir} }
func file(p, data string) api.Line { return api.Line{Path: p, Kind: api.File, Data: data} }
func link(p, to string) api.Line   { return api.Line{Path: p, Kind: api.Link, Data: to} }

// ok is the result of a call that returns nothing but OK.
var ok = api.Result{}

// errnos are all errors, with OK, and numbers of none.
func errnos() []api.Errno {
	return []api.Errno{
		api.OK, api.EPERM, api.ENOENT, api.EBADF, api.EBUSY, api.EEXIST, api.ENOTDIR, api.EISDIR, api.EINVAL, api.ENFILE, api.EMFILE, api.EFBIG, api.ENOSPC,
		api.EROFS, api.EMLINK, api.ENAMETOOLONG, api.ENOTEMPTY, api.ELOOP, -28, 27, 29, 28 + 256, 28 + 1<<32, math.MinInt, math.MaxInt,
	}
}

// TestExample: P17.1, P17.2: both rows of the chapter's example.
func TestExample(t *testing.T) {
	mk, stat := of(api.OpMkdir, "a"), of(api.OpStat, "a")
	l := []Event{{C: mk, From: 1, At: 4, To: 5, Back: true}, {C: stat, R: fails(api.ENOENT), From: 2, At: 3, To: 6, Back: true}}
	if is, i := check(t, nil, l); !is || i != -1 {
		t.Errorf("the first row: %t, %d", is, i)
	}
	l[1].From, l[1].At, l[1].To = 7, 7, 8
	if is, i := check(t, nil, l); is || i != 1 {
		t.Errorf("the second row: %t, %d", is, i)
	}
}

// TestOrder: P17.1: what took effect, in increasing order of At, wherever it stands and whatever else has not.
func TestOrder(t *testing.T) {
	for _, x := range []struct {
		what string
		l    []Event
		want []int
	}{
		{"none", nil, nil},
		{"none, in a list of its own", []Event{}, nil},
		{"one", []Event{back(1, 2, 3)}, []int{0}},
		{"one that has not returned", []Event{going(1, 2)}, []int{0}},
		{"one that has not taken effect", []Event{going(1, 0)}, nil},
		{"in order", []Event{back(1, 2, 3), back(4, 5, 6), back(7, 8, 9)}, []int{0, 1, 2}},
		{"the other way round", []Event{back(7, 8, 9), back(4, 5, 6), back(1, 2, 3)}, []int{2, 1, 0}},
		{"out of order", []Event{back(1, 9, 9), back(1, 2, 9), back(1, 7, 9), back(1, 4, 9), back(1, 3, 9)}, []int{1, 4, 3, 2, 0}},
		{"At alone makes the order, not From", []Event{back(1, 6, 9), back(3, 5, 9), back(2, 4, 9)}, []int{2, 1, 0}},
		{"nor To", []Event{back(1, 6, 7), back(1, 5, 8), back(1, 4, 9)}, []int{2, 1, 0}},
		{"nor whether it has returned", []Event{going(1, 3), back(1, 2, 9), going(1, 1), back(1, 4, 9)}, []int{2, 1, 0, 3}},
		{"nor Task", []Event{{Task: 1, From: 1, At: 3}, {Task: 9, From: 1, At: 1}, {Task: -5, From: 1, At: 2}, {Task: 1, From: 1, At: 4}}, []int{1, 2, 0, 3}},
		{"one without effect ahead", []Event{going(1, 0), back(1, 3, 9), back(1, 2, 9)}, []int{2, 1}},
		{"one without effect between", []Event{back(1, 3, 9), going(1, 0), back(1, 2, 9)}, []int{2, 0}},
		{"one without effect behind", []Event{back(1, 3, 9), back(1, 2, 9), going(1, 0)}, []int{1, 0}},
		{"several without effect", []Event{going(1, 0), going(5, 0), back(1, 3, 9), going(1, 0), going(4, 0), going(1, 2), going(2, 0)}, []int{5, 2}},
		{"none of them with effect", []Event{going(1, 0), going(1, 0), going(9, 0)}, nil},
		{"a long way between", []Event{going(1, 1<<32+1), going(1, 1<<31), going(1, 2), going(1, 1<<33), going(1, 1<<32), going(1, 1<<31-1)}, []int{2, 5, 1, 4, 0, 3}},
	} {
		if got, i := order(t, x.l); !slices.Equal(got, x.want) || i != -1 {
			t.Errorf("%s: %v, %d; want %v", x.what, got, i, x.want)
		}
	}
}

// TestConsistent: P17.1: which times of an event are consistent, each at its edge.
func TestConsistent(t *testing.T) {
	const least, most = math.MinInt64, math.MaxInt64
	for _, x := range []struct {
		e    Event
		want bool
	}{
		{Event{}, false},
		{going(0, 0), false}, {going(0, 1), false}, {back(0, 1, 1), false}, {back(0, 0, 0), false},
		{going(-1, 0), false}, {going(-1, 1), false}, {back(-1, 1, 2), false}, {going(-1, -1), false}, {back(-3, -2, -1), false},
		{going(least, 0), false}, {going(least, most), false}, {back(least, 1, most), false}, {back(least, least, least), false},
		{going(1, 0), true}, {going(7, 0), true}, {going(most, 0), true},
		{going(5, 4), false}, {going(5, 1), false}, {going(2, 1), false}, {going(5, -1), false}, {going(1, -1), false}, {going(1, least), false}, {going(most, least), false}, {going(most, most-1), false},
		{going(5, 5), true}, {going(5, 6), true}, {going(1, 1), true}, {going(1, most), true}, {going(most, most), true},
		{back(5, 4, 9), false}, {back(5, -5, 9), false}, {back(5, 4, 4), false}, {back(1, least, most), false}, {back(1, least, least), false},
		{back(5, 5, 9), true}, {back(5, 6, 9), true}, {back(1, 1, 1), true},
		{back(1, 0, 9), false}, {back(1, 0, 0), false}, {back(1, 0, -1), false}, {back(1, 0, 1), false}, {back(most, 0, most), false},
		{back(1, 5, 5), true}, {back(1, 5, 6), true}, {back(1, 5, most), true}, {back(most, most, most), true}, {back(1, most, most), true},
		{back(1, 5, 4), false}, {back(1, 5, 1), false}, {back(1, 5, 0), false}, {back(1, 5, -1), false}, {back(1, 5, least), false}, {back(1, most, most-1), false}, {back(1, most, least), false}, {back(3, 5, 3), false},
		{Event{From: 1, At: 5, To: 4}, true}, {Event{From: 1, At: 5, To: -1}, true}, {Event{From: 1, At: 5, To: least}, true}, {Event{From: 1, At: 5, To: 9}, true},
		{Event{From: 1, To: -1}, true}, {Event{From: 1, To: 9}, true}, {Event{From: 3, To: 1}, true}, {Event{From: 1, To: least}, true},
		{Event{From: 0, At: 5, To: 9}, false}, {Event{From: 6, At: 5, To: 9}, false},
	} {
		// Alone, and with others on both sides.
		for ahead := range 3 {
			for behind := range 3 {
				l := slices.Concat(others(1000, ahead), []Event{x.e}, others(2000, behind))
				got, i := order(t, l)
				if x.want && i != -1 || !x.want && (i != ahead || len(got) > 0) {
					t.Errorf("%s: %v, %d", told(l), got, i)
				}
			}
		}
	}
}

// others are some events that are consistent, the last of which took effect first.
func others(time int64, n int) []Event {
	var l []Event
	for i := range n {
		l = append(l, back(1, time-int64(i), time))
	}
	return l
}

// TestSame: P17.1: the first event in l that isn't consistent, or has the At of an earlier one.
func TestSame(t *testing.T) {
	bad := going(0, 0)
	for _, x := range []struct {
		what string
		l    []Event
		want int
	}{
		{"twice", []Event{back(1, 4, 5), back(1, 4, 5)}, 1},
		{"twice, not returned", []Event{going(1, 4), going(1, 4)}, 1},
		{"twice, one returned", []Event{going(1, 4), back(1, 4, 5)}, 1},
		{"twice, of several tasks", []Event{{Task: 1, From: 1, At: 4}, {Task: 2, From: 3, At: 4}}, 1},
		{"twice, with others between", []Event{back(1, 4, 9), back(1, 5, 9), back(1, 3, 9), back(2, 4, 8), back(1, 6, 9)}, 3},
		{"three times", []Event{back(1, 4, 5), back(1, 4, 5), back(1, 4, 5)}, 1},
		{"three times, with others between", []Event{back(1, 2, 5), going(1, 4), back(1, 3, 5), going(1, 4), back(1, 1, 5), going(1, 4)}, 3},
		{"two of each", []Event{going(1, 7), going(1, 5), going(1, 5), going(1, 7)}, 2},
		{"two of each, one in the other", []Event{going(1, 5), going(1, 7), going(1, 5), going(1, 7)}, 2},
		{"not consistent, ahead of both", []Event{bad, going(1, 4), going(1, 4)}, 0},
		{"not consistent, between them", []Event{going(1, 4), bad, going(1, 4)}, 1},
		{"not consistent, behind them", []Event{going(1, 4), going(1, 4), bad}, 1},
		{"two that aren't consistent", []Event{going(1, 4), bad, going(1, 5), bad}, 1},
		{"both not consistent", []Event{back(1, 4, 3), back(1, 4, 3)}, 0},
		{"the earlier one not consistent", []Event{back(1, 4, 3), back(1, 4, 5)}, 0},
		{"the later one not consistent", []Event{back(1, 4, 5), back(1, 4, 3)}, 1},
		{"the later one not consistent, and then one that is", []Event{back(1, 4, 5), back(5, 4, 5), back(1, 4, 5)}, 1},
		{"the greatest times", []Event{going(1, math.MaxInt64), going(1, math.MaxInt64-1), going(1, math.MaxInt64)}, 2},
		{"At 0 is no time, not returned", []Event{going(1, 0), going(1, 0), going(1, 4), going(1, 0)}, -1},
		{"At 0 is no time, then one twice", []Event{going(1, 0), going(1, 0), going(1, 4), going(1, 0), going(1, 4)}, 4},
		{"the same From", []Event{back(3, 4, 5), back(3, 6, 7)}, -1},
		{"the same To", []Event{back(3, 4, 9), back(3, 6, 9)}, -1},
		{"the From and To of others", []Event{back(3, 4, 5), back(4, 5, 6), back(2, 3, 4)}, -1},
		{"the same in the low bits", []Event{going(1, 4), going(1, 4+1<<8), going(1, 4+1<<16), going(1, 4+1<<32), going(1, 4+1<<62)}, -1},
	} {
		got, i := order(t, x.l)
		if i != x.want || i >= 0 && len(got) > 0 {
			t.Errorf("%s: %v, %d; want %d", x.what, got, i, x.want)
		}
	}
}

// TestEnds: P17.1: times at the ends of int64.
func TestEnds(t *testing.T) {
	const least, most = math.MinInt64, math.MaxInt64
	for _, x := range []struct {
		l    []Event
		want []int
		bad  int
	}{
		{[]Event{back(most, most, most), back(1, 1, 1), back(1, most-1, most), back(1, 2, most)}, []int{1, 3, 2, 0}, -1},
		{[]Event{going(1, most), going(1, most-2), going(1, most-1), going(most, 0)}, []int{1, 2, 0}, -1},
		{[]Event{going(1, 1), going(1, least)}, nil, 1},
		{[]Event{going(1, 1), going(least, 2)}, nil, 1},
		{[]Event{going(1, 1), back(1, 2, least)}, nil, 1},
		{[]Event{going(1, 1), {From: 1, At: 2, To: least}, {From: 1, At: 3, To: most}}, []int{0, 1, 2}, -1},
		{[]Event{back(least, least, least)}, nil, 0},
		{[]Event{back(1, most, least)}, nil, 0},
		{[]Event{back(least, most, most)}, nil, 0},
	} {
		if got, i := order(t, x.l); !slices.Equal(got, x.want) || i != x.bad {
			t.Errorf("%s: %v, %d; want %v, %d", told(x.l), got, i, x.want, x.bad)
		}
	}
}

// TestOrderOwn: P17.1, R3: Order tells indexes of l and not of what took effect alone; what it has returned stays, whatever becomes of l.
func TestOrderOwn(t *testing.T) {
	l := []Event{going(1, 0), back(1, 7, 9), going(1, 0), back(1, 5, 9), back(1, 6, 9)}
	got, i := Order(l)
	want := []int{3, 4, 1}
	if !slices.Equal(got, want) || i != -1 {
		t.Fatalf("%v, %d; want %v", got, i, want)
	}
	again, _ := Order(l)
	clear(l)
	if !slices.Equal(got, want) || !slices.Equal(again, want) {
		t.Errorf("changed with the events: %v, %v", got, again)
	}
	clear(got)
	if !slices.Equal(again, want) {
		t.Errorf("two answers are one: %v", again)
	}
}

// TestOrderTimesAlone: P17.1: only times count: calls and results of any kind, also those of skipped events, are in the order.
func TestOrderTimesAlone(t *testing.T) {
	var l []Event
	var want []int
	for i, e := range errnos() {
		n := len(errnos())
		l = append(l, Event{Task: i % 3, C: api.Call{Op: i - 2}, R: api.Result{E: e, N: int64(i)}, From: 1, At: int64(n - i), To: 99, Back: i%2 == 0})
		want = append(want, n-1-i)
	}
	if got, i := order(t, l); !slices.Equal(got, want) || i != -1 {
		t.Errorf("%v, %d; want %v", got, i, want)
	}
}

// TestMany: P17.1, P17.2: very many events, in time.
func TestMany(t *testing.T) {
	const many = 200000
	l := make([]Event, many)
	for i := range l {
		n := i * 7 % many // each time once, as 7 has no part in many
		l[i] = did(int64(n+1), of(api.OpMkdir+n%2, "a"), ok)
	}
	got, bad := Order(l)
	if len(got) != many || bad != -1 {
		t.Fatalf("Order: %d indexes, %d", len(got), bad)
	}
	for n, i := range got {
		if l[i].At != int64(n+1) {
			t.Fatalf("Order: %d, at %d, is told as number %d", i, l[i].At, n)
		}
	}
	if is, i := Check(nil, l); !is || i != -1 {
		t.Errorf("Check: %t, %d", is, i)
	}
	l[got[many-1]].R.E = api.ENOENT
	if is, i := Check(nil, l); is || i != got[many-1] {
		t.Errorf("Check, the last one wrong: %t, %d", is, i)
	}
	l[many-1].At = l[0].At
	l[many-1].From, l[many-1].To = l[0].From, l[0].To
	if got, i := Order(l); len(got) != 0 || i != many-1 {
		t.Errorf("Order, the last one at the first one's time: %d indexes, %d", len(got), i)
	}
}

// everyOp is a history with a call of every Op, and of none, and with the results that the model returns on everyTree.
func everyOp() []Event {
	var l []Event
	for i, x := range []struct {
		c api.Call
		r api.Result
	}{
		{of(api.OpMkdir, "a"), ok},
		{open(api.FlagRead|api.FlagWrite, "d/f"), ok},
		{api.Call{Op: api.OpRead, N: 2}, api.Result{N: 2, S: "he"}},
		{api.Call{Op: api.OpWrite, A: "LL"}, api.Result{N: 2}},
		{api.Call{Op: api.OpPread, N: 9, Off: 1}, api.Result{N: 4, S: "eLLo"}},
		{api.Call{Op: api.OpPwrite, A: "!", Off: 5}, api.Result{N: 1}},
		{api.Call{Op: api.OpSeek, Flag: 2}, api.Result{N: 6}},
		{api.Call{Op: api.OpCut, A: "d/f", Off: 4}, ok},
		{of(api.OpStat, "l"), statOf(api.File, 4, 1)},
		{of(api.OpLstat, "l"), statOf(api.Link, 3, 1)},
		{two(api.OpLink, "d/f", "a/g"), ok},
		{of(api.OpStat, "a/g"), statOf(api.File, 4, 2)},
		{two(api.OpSymlink, "no", "a/s"), ok},
		{of(api.OpReadlink, "a/s"), api.Result{N: 2, S: "no"}},
		{two(api.OpRename, "a/g", "h"), ok},
		{of(api.OpOpendir, "d"), api.Result{N: 1}},
		{on(api.OpReaddir, 1), api.Result{N: 1, S: "f"}},
		{on(api.OpReaddir, 1), ok},
		{of(api.OpRmdir, "d"), fails(api.ENOTEMPTY)},
		{of(api.OpUnlink, "d/f"), ok},
		{on(api.OpRewind, 1), ok},
		{on(api.OpReaddir, 1), ok},
		{on(api.OpClose, 1), ok},
		{of(api.OpRmdir, "d"), ok},
		{of(api.OpStat, "d"), fails(api.ENOENT)},
		{api.Call{Op: 0, A: "d"}, fails(api.EINVAL)},
		{api.Call{Op: 21, A: "d"}, fails(api.EINVAL)},
		{api.Call{Op: -1, A: "d"}, fails(api.EINVAL)},
		{api.Call{Op: math.MinInt, A: "d"}, fails(api.EINVAL)},
		{api.Call{Op: math.MaxInt, A: "d"}, fails(api.EINVAL)},
		{api.Call{Op: api.OpPread, N: 9}, api.Result{N: 4, S: "heLL"}},
		{on(api.OpClose, 0), ok},
		{on(api.OpClose, 0), fails(api.EBADF)},
	} {
		l = append(l, did(int64(10*i+5), x.c, x.r))
	}
	return l
}

// everyTree are the lines ahead of everyOp, not in the order in which Lines tells them.
func everyTree() []api.Line {
	return []api.Line{link("/l", "d/f"), dir("/d"), file("/d/f", "hello")}
}

// TestRight: P17.2: events of each Op, and of none, that are right, whatever their order in l; the lines behind them.
func TestRight(t *testing.T) {
	want := []api.Line{dir("/a"), link("/a/s", "no"), file("/h", "heLL"), link("/l", "d/f")}
	l := everyOp()
	for range len(l) {
		if is, i := check(t, everyTree(), l); !is || i != -1 {
			t.Fatalf("%s: %t, %d", told(l), is, i)
		}
		if got, is := lines(t, everyTree(), l); !slices.Equal(got, want) || !is {
			t.Fatalf("%s: %v, %t", told(l), got, is)
		}
		l = append(l[1:], l[0])
	}
	slices.Reverse(l)
	if is, i := check(t, everyTree(), l); !is || i != -1 {
		t.Errorf("the other way round: %t, %d", is, i)
	}
}

// TestNothing: P17.2: no events, or none that took effect: they are right, and the lines are those of the tree, in their order.
func TestNothing(t *testing.T) {
	want := []api.Line{dir("/d"), file("/d/f", "hello"), link("/l", "d/f")}
	mk := Event{C: of(api.OpMkdir, "a"), From: 1}
	for _, l := range [][]Event{nil, {}, {mk}, {mk, mk}} {
		if is, i := check(t, everyTree(), l); !is || i != -1 {
			t.Errorf("%s: %t, %d", told(l), is, i)
		}
		if got, is := lines(t, everyTree(), l); !slices.Equal(got, want) || !is {
			t.Errorf("%s: %v, %t", told(l), got, is)
		}
		if is, i := check(t, nil, l); !is || i != -1 {
			t.Errorf("%s, no lines: %t, %d", told(l), is, i)
		}
		if got, is := lines(t, nil, l); len(got) > 0 || !is {
			t.Errorf("%s, no lines: %v, %t", told(l), got, is)
		}
	}
}

// changes make another result of one, each by one field.
func changes() []func(r *api.Result) {
	return []func(r *api.Result){
		func(r *api.Result) { r.E++ },
		func(r *api.Result) { r.E = api.EROFS },
		func(r *api.Result) { r.E = -1 },
		func(r *api.Result) { r.N++ },
		func(r *api.Result) { r.N-- },
		func(r *api.Result) { r.N += 1 << 32 },
		func(r *api.Result) { r.S += "x" },
		func(r *api.Result) { r.S += "\x00" },
		func(r *api.Result) { r.S = strings.Repeat("y", max(1, len(r.S))) },
		func(r *api.Result) { r.T.Kind++ },
		func(r *api.Result) { r.T.Size++ },
		func(r *api.Result) { r.T.Link-- },
		func(r *api.Result) { r.T = api.Stat{Kind: r.T.Size + 1, Size: r.T.Kind, Link: r.T.Link} },
		func(r *api.Result) {
			*r = api.Result{E: api.EROFS, N: 7, S: "x", T: api.Stat{Kind: 9, Size: 9, Link: 9}}
		},
	}
}

// TestWrong: P17.2: an event with another errno, N, S or stat than the model: that event is told. If it has not returned, its result isn't looked at, and it is right. The lines are the same.
func TestWrong(t *testing.T) {
	want, _ := lines(t, everyTree(), everyOp())
	for at := range everyOp() {
		for n, change := range changes() {
			l := everyOp()
			change(&l[at].R)
			what := strconv.Itoa(at) + ", change " + strconv.Itoa(n)
			if is, i := check(t, everyTree(), l); is || i != at {
				t.Errorf("%s: %t, %d", what, is, i)
			}
			if got, is := lines(t, everyTree(), l); !slices.Equal(got, want) || !is {
				t.Errorf("%s: lines %v, %t", what, got, is)
			}
			l[at].Back, l[at].To = false, 0
			if is, i := check(t, everyTree(), l); !is || i != -1 {
				t.Errorf("%s, not returned: %t, %d", what, is, i)
			}
			if got, is := lines(t, everyTree(), l); !slices.Equal(got, want) || !is {
				t.Errorf("%s, not returned: lines %v, %t", what, got, is)
			}
		}
	}
}

// TestFirstWrong: P17.2: of several events that are wrong the first in the order of Order is told, wherever it stands in l.
func TestFirstWrong(t *testing.T) {
	mk := of(api.OpMkdir, "a")
	for _, x := range []struct {
		what string
		l    []Event
		want int
	}{
		{"the first in l is the last", []Event{did(9, mk, ok), did(3, mk, fails(api.ENOENT)), did(5, mk, ok)}, 1},
		{"the last in l is the first", []Event{did(9, mk, ok), did(5, mk, ok), did(1, mk, fails(api.EBUSY))}, 2},
		{"the one between", []Event{did(5, mk, fails(api.EPERM)), did(3, mk, ok), did(4, mk, fails(api.EPERM)), did(9, mk, ok)}, 2},
		{"one that has not returned is ahead", []Event{did(5, mk, ok), {C: mk, R: fails(api.EPERM), From: 1, At: 2}}, 0},
		{"one that has not returned is ahead, and right ones", []Event{did(8, mk, ok), {C: mk, R: fails(api.EPERM), From: 1, At: 2}, did(5, mk, fails(api.EEXIST)), did(7, mk, ok)}, 3},
		{"one that is skipped is ahead", []Event{did(8, mk, fails(api.EPERM)), did(2, mk, fails(api.ENOSPC)), did(7, mk, fails(api.EEXIST))}, 2},
		{"one that has not taken effect is ahead", []Event{{C: mk, R: fails(api.EPERM), From: 1}, did(7, mk, fails(api.EEXIST)), did(8, mk, ok)}, 1},
	} {
		if is, i := check(t, nil, x.l); is || i != x.want {
			t.Errorf("%s: %t, %d; want %d", x.what, is, i, x.want)
		}
		if got, is := lines(t, nil, x.l); !slices.Equal(got, []api.Line{dir("/a")}) || !is {
			t.Errorf("%s: lines %v, %t", x.what, got, is)
		}
	}
}

// notInOrder are events for which Order returns an index, which is the number at the same place of the second list. All that took effect are wrong as well.
func notInOrder() ([][]Event, []int) {
	mk := func(e Event) Event {
		e.C, e.R = of(api.OpMkdir, "a"), fails(api.EROFS)
		return e
	}
	return [][]Event{
		{mk(back(0, 1, 1))},
		{mk(back(1, 2, 2)), mk(going(-1, 0))},
		{mk(back(3, 3, 3)), mk(back(1, 1, 1)), mk(back(2, 1, 2)), mk(back(1, 0, 2))},
		{mk(back(3, 3, 3)), mk(back(1, 1, 1)), mk(back(1, 4, 3)), mk(back(0, 2, 2))},
		{mk(back(2, 2, 2)), mk(back(2, 2, 2))},
		{mk(back(1, 1, 1)), mk(going(1, 9)), mk(going(2, 9)), mk(going(0, 9))},
		{did(1, of(api.OpMkdir, "b"), ok), did(2, of(api.OpMkdir, "c"), ok), mk(back(1, 0, 1))},
		{did(1, of(api.OpMkdir, "b"), fails(api.ENOSPC)), did(1, of(api.OpMkdir, "c"), fails(api.ENOSPC))},
		{did(0, of(api.OpMkdir, "b"), fails(api.ENOSPC))},
		{{C: of(api.OpMkdir, "b"), R: fails(api.ENOSPC), From: 4, At: 3}},
	}, []int{0, 1, 2, 2, 1, 2, 2, 1, 0, 0}
}

// TestNotInOrder: P17.2: the index that Order returns, whatever the results are, also where it is that of an event which would be skipped, or has not returned; no lines.
func TestNotInOrder(t *testing.T) {
	all, want := notInOrder()
	for n, l := range all {
		for _, at := range [][]api.Line{nil, everyTree()} {
			if is, i := check(t, at, l); is || i != want[n] {
				t.Errorf("%s: %t, %d; want %d", told(l), is, i, want[n])
			}
			if got, is := lines(t, at, l); len(got) > 0 || is {
				t.Errorf("%s: lines %v, %t", told(l), got, is)
			}
		}
	}
}

// full are as many chunks as a branch may have, in files of which the last one may lack some bytes.
func full(lack int) []api.Line {
	var l []api.Line
	for i := range api.MaxRoom * api.Chunk / api.MaxFile {
		l = append(l, file("/"+strconv.Itoa(i), strings.Repeat("x", api.MaxFile)))
	}
	last := &l[len(l)-1]
	last.Data = last.Data[lack:]
	return l
}

// crowded are as many names as a branch may have inodes for, beside the root, but for some.
func crowded(lack int) []api.Line {
	var l []api.Line
	for i := range api.MaxInode - 1 - lack {
		l = append(l, dir("/"+strconv.Itoa(i)))
	}
	return l
}

// TestNoBranch: P17.2: lines that yield no branch: false, -1 and no lines, also of no events, of right ones, of wrong ones and of those that aren't consistent.
func TestNoBranch(t *testing.T) {
	events := [][]Event{nil, {did(1, of(api.OpMkdir, "b"), ok)}, {did(1, of(api.OpMkdir, "b"), fails(api.EROFS))}, {did(1, of(api.OpMkdir, "b"), fails(api.ENOSPC))}, {going(1, 0)}}
	more, _ := notInOrder()
	for what, at := range map[string][]api.Line{
		"no directory":         {file("/x/y", "")},
		"below a file":         {file("/x", ""), file("/x/y", "")},
		"below a link":         {dir("/d"), link("/l", "d"), file("/l/y", "")},
		"no path":              {dir("")},
		"the root":             {dir("/")},
		"not from the root":    {dir("a")},
		"a whiteout":           {{Path: "/a", Kind: api.White}},
		"no kind":              {{Path: "/a"}},
		"a kind below 0":       {{Path: "/a", Kind: -1}},
		"twice":                {dir("/a"), dir("/a")},
		"the last one":         {dir("/a"), file("/a/b", "x"), dir("/a/c"), dir("/d/e")},
		"a link to nothing":    {link("/l", "")},
		"a name of dots":       {dir("/a"), dir("/a/..")},
		"a long name":          {dir("/" + strings.Repeat("n", 61))},
		"a great file":         {file("/a", strings.Repeat("x", api.MaxFile+1))},
		"too many names":       append(crowded(0), dir("/more")),
		"too many chunks":      append(full(0), file("/more", "x")),
		"too many for the end": append(full(16), file("/more", strings.Repeat("x", 17))),
	} {
		for _, l := range slices.Concat(events, more) {
			if is, i := check(t, at, l); is || i != -1 {
				t.Errorf("%s: %s: %t, %d", what, told(l), is, i)
			}
			if got, is := lines(t, at, l); len(got) > 0 || is {
				t.Errorf("%s: %s: lines %v, %t", what, told(l), got, is)
			}
			if len(at) > 15 {
				break // great ones take time
			}
		}
	}
}

// TestSkipped: P17.2: the model doesn't do the calls of events whose result is ENOSPC, whether they have returned or not, and whatever else the result has.
func TestSkipped(t *testing.T) {
	mk, stat := of(api.OpMkdir, "a"), of(api.OpStat, "a")
	for _, r := range []api.Result{fails(api.ENOSPC), {E: api.ENOSPC, N: 7}, {E: api.ENOSPC, S: "x"}, {E: api.ENOSPC, T: api.Stat{Kind: 1}}} {
		for _, is := range []bool{true, false} {
			skip := did(2, mk, r)
			skip.Back = is
			if right, i := check(t, nil, []Event{skip, did(3, stat, fails(api.ENOENT))}); !right || i != -1 {
				t.Errorf("%v, returned %t: %t, %d", r, is, right, i)
			}
			if right, i := check(t, nil, []Event{skip, did(3, stat, statOf(api.Dir, 0, 1))}); right || i != 1 {
				t.Errorf("%v, returned %t, and the directory is there: %t, %d", r, is, right, i)
			}
			if right, i := check(t, nil, []Event{skip, did(1, mk, ok), did(3, stat, statOf(api.Dir, 0, 1))}); !right || i != -1 {
				t.Errorf("%v, returned %t, and the directory was there: %t, %d", r, is, right, i)
			}
			if got, is := lines(t, nil, []Event{skip, did(1, of(api.OpMkdir, "b"), ok)}); !slices.Equal(got, []api.Line{dir("/b")}) || !is {
				t.Errorf("%v: lines %v", r, got)
			}
		}
	}
	l := []Event{did(1, mk, fails(api.ENOSPC)), did(3, mk, fails(api.ENOSPC)), did(2, api.Call{Op: -1}, fails(api.ENOSPC))}
	if is, i := check(t, nil, l); !is || i != -1 {
		t.Errorf("all skipped: %t, %d", is, i)
	}
	if got, is := lines(t, everyTree(), l); len(got) != 3 || !is {
		t.Errorf("all skipped: lines %v, %t", got, is)
	}
}

// TestSkippedAlone: P17.2: no other errno than ENOSPC has an event skipped, be its result right or wrong, nor has ENOSPC's number in another field.
func TestSkippedAlone(t *testing.T) {
	mk := of(api.OpMkdir, "a")
	results := []api.Result{{N: 28}, {S: "28"}, {T: api.Stat{Kind: 28, Size: 28, Link: 28}}}
	for _, e := range errnos() {
		if e != api.ENOSPC {
			results = append(results, fails(e))
		}
	}
	for _, r := range results {
		l := []Event{did(1, mk, r), did(2, mk, fails(api.EEXIST))}
		if is, i := check(t, nil, l); is != (r == ok) || !is && i != 0 {
			t.Errorf("%v: %t, %d", r, is, i)
		}
		l[0].Back = false
		if is, i := check(t, nil, l); !is || i != -1 {
			t.Errorf("%v, not returned: %t, %d", r, is, i)
		}
		if got, is := lines(t, nil, l); !slices.Equal(got, []api.Line{dir("/a")}) || !is {
			t.Errorf("%v: lines %v, %t", r, got, is)
		}
	}
}

// TestNoEffect: P17.2: the model doesn't do the calls of events that have not taken effect, whatever their results; those which have not returned, but taken effect, it does.
func TestNoEffect(t *testing.T) {
	mk, stat := of(api.OpMkdir, "a"), of(api.OpStat, "a")
	for _, e := range errnos() {
		l := []Event{{C: mk, R: fails(e), From: 1}, did(2, stat, fails(api.ENOENT))}
		if is, i := check(t, nil, l); !is || i != -1 {
			t.Errorf("%d: %t, %d", e, is, i)
		}
		if got, is := lines(t, nil, l); len(got) > 0 || !is {
			t.Errorf("%d: lines %v, %t", e, got, is)
		}
		if e == api.ENOSPC {
			continue
		}
		l[0].At = 1
		if is, i := check(t, nil, l); is || i != 1 {
			t.Errorf("%d, with effect: %t, %d", e, is, i)
		}
		if got, is := lines(t, nil, l); !slices.Equal(got, []api.Line{dir("/a")}) || !is {
			t.Errorf("%d, with effect: lines %v, %t", e, got, is)
		}
	}
}

// TestModelFull: P17.2: an event that the model answers with ENOSPC is wrong with any other result; with ENOSPC it is skipped.
func TestModelFull(t *testing.T) {
	mk := of(api.OpMkdir, "a")
	for _, r := range []api.Result{ok, fails(api.EEXIST), {N: 28}} {
		if is, i := check(t, crowded(0), []Event{did(1, mk, r)}); is || i != 0 {
			t.Errorf("%v: %t, %d", r, is, i)
		}
	}
	l := []Event{did(1, mk, fails(api.ENOSPC)), did(2, of(api.OpRmdir, "5"), ok), did(3, mk, ok)}
	if is, i := check(t, crowded(0), l); !is || i != -1 {
		t.Errorf("skipped, and then there is one inode less: %t, %d", is, i)
	}
	l = []Event{did(1, mk, ok), did(2, of(api.OpMkdir, "b"), ok)}
	if is, i := check(t, crowded(1), l); is || i != 1 {
		t.Errorf("the last inode is used: %t, %d", is, i)
	}
	l[0].R.E = api.ENOSPC
	if is, i := check(t, crowded(1), l); !is || i != -1 {
		t.Errorf("what is skipped uses no inode: %t, %d", is, i)
	}
	l[1].Back, l[1].R.E = false, api.EPERM
	l[0] = did(1, mk, ok)
	if is, i := check(t, crowded(1), l); !is || i != -1 {
		t.Errorf("no inode for what has not returned: %t, %d", is, i)
	}
	if got, is := lines(t, crowded(1), l); len(got) != api.MaxInode-1 || !is {
		t.Errorf("no inode for what has not returned: %d lines, %t", len(got), is)
	}
}

// TestRoom: P17.2: the branch has room for MaxRoom chunks, no more and no less; a write that writes fewer bytes returns their number.
func TestRoom(t *testing.T) {
	opens := did(1, open(api.FlagWrite|api.FlagCreate, "new"), ok)
	write := func(n int, r api.Result) []Event {
		return []Event{opens, did(2, api.Call{Op: api.OpWrite, A: strings.Repeat("y", n)}, r)}
	}
	for _, x := range []struct {
		lack int
		l    []Event
		want bool
	}{
		{0, write(0, ok), true},
		{0, write(1, api.Result{N: 1}), false},
		{0, write(1, fails(api.ENOSPC)), true},
		{16, write(1, api.Result{N: 1}), true},
		{16, write(16, api.Result{N: 16}), true},
		{16, write(17, api.Result{N: 17}), false},
		{16, write(17, api.Result{N: 16}), true},
		{16, write(17, fails(api.ENOSPC)), true},
	} {
		is, i := check(t, full(x.lack), x.l)
		if is != x.want || !is && i != 1 {
			t.Errorf("%d bytes are lacking: %s: %t, %d", x.lack, told(x.l), is, i)
		}
	}
	if got, is := lines(t, full(0), write(1, api.Result{N: 1})); len(got) != len(full(0))+1 || !is {
		t.Errorf("%d lines, %t", len(got), is)
	}
}

// TestLines: P17.2: the lines behind events are the names that there are then, in their order: not what is open alone, and a file once for each name.
func TestLines(t *testing.T) {
	const rwc = api.FlagRead | api.FlagWrite | api.FlagCreate
	for _, x := range []struct {
		what     string
		at, want []api.Line
		calls    []api.Call
	}{
		{"made", nil, []api.Line{dir("/a"), dir("/a/b"), dir("/c")}, []api.Call{of(api.OpMkdir, "c"), of(api.OpMkdir, "a"), of(api.OpMkdir, "a/b")}},
		{"taken away", []api.Line{dir("/a"), dir("/a/b"), dir("/c")}, []api.Line{dir("/c")}, []api.Call{of(api.OpRmdir, "a/b"), of(api.OpRmdir, "a")}},
		{"nothing left", []api.Line{file("/a", "x")}, nil, []api.Call{of(api.OpUnlink, "a")}},
		{"open alone", []api.Line{file("/a", "x")}, nil, []api.Call{open(api.FlagRead, "a"), of(api.OpUnlink, "a")}},
		{"open, and made anew", []api.Line{file("/a", "x")}, []api.Line{file("/a", "")}, []api.Call{open(api.FlagRead, "a"), of(api.OpUnlink, "a"), open(rwc, "a")}},
		{"two names", []api.Line{file("/a", "x")}, []api.Line{file("/a", "y"), file("/b", "y")}, []api.Call{two(api.OpLink, "a", "b"), open(rwc, "b"), {Op: api.OpWrite, A: "y"}}},
		{"renamed", []api.Line{dir("/a"), file("/a/b", "x")}, []api.Line{dir("/c"), file("/c/b", "x")}, []api.Call{two(api.OpRename, "a", "c")}},
		{"links", []api.Line{link("/a", "b")}, []api.Line{link("/a", "b"), link("/b", "a")}, []api.Call{two(api.OpSymlink, "a", "b")}},
		{"with a hole", nil, []api.Line{file("/a", "\x00\x00\x00x")}, []api.Call{open(rwc, "a"), {Op: api.OpPwrite, Off: 3, A: "x"}}},
		{"cut", []api.Line{file("/a", "xyz")}, []api.Line{file("/a", "xy")}, []api.Call{{Op: api.OpCut, A: "a", Off: 2}}},
		{"the order of names", []api.Line{dir("/b"), dir("/a"), file("/b/z", ""), file("/a/y", "")}, []api.Line{dir("/a"), file("/a/y", ""), dir("/a-"), dir("/b"), file("/b/z", "")}, []api.Call{of(api.OpMkdir, "a-")}},
		{"data of a directory", []api.Line{{Path: "/a", Kind: api.Dir, Data: "x"}}, []api.Line{dir("/a")}, nil},
	} {
		var l []Event
		for i, c := range x.calls {
			l = append(l, Event{C: c, From: 1, At: int64(i + 1)})
		}
		slices.Reverse(l)
		if got, is := lines(t, x.at, l); !slices.Equal(got, x.want) || !is {
			t.Errorf("%s: %v, %t; want %v", x.what, got, is, x.want)
		}
	}
}

// TestOneTable: P17.2: the descriptors are those of one system, whichever task's call it is.
func TestOneTable(t *testing.T) {
	l := []Event{
		did(1, open(api.FlagRead, "d/f"), ok),
		did(2, open(api.FlagRead, "d/f"), api.Result{N: 1}),
		did(3, api.Call{Op: api.OpRead, N: 2}, api.Result{N: 2, S: "he"}),
		did(4, api.Call{Op: api.OpRead, N: 2}, api.Result{N: 2, S: "ll"}),
		did(5, api.Call{Op: api.OpRead, Fd: 1, N: 2}, api.Result{N: 2, S: "he"}),
		did(6, on(api.OpClose, 0), ok),
		did(7, api.Call{Op: api.OpRead, N: 2}, fails(api.EBADF)),
		did(8, of(api.OpOpendir, "d"), ok),
	}
	for i := range l {
		l[i].Task = i * 5 % 3
	}
	if is, i := check(t, everyTree(), l); !is || i != -1 {
		t.Errorf("%t, %d", is, i)
	}
	// Each check has a system of its own, in which nothing is open yet.
	if is, i := check(t, everyTree(), l[2:]); is || i != 0 {
		t.Errorf("without what opens: %t, %d", is, i)
	}
}
