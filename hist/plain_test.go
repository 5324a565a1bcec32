package hist

import (
	"slices"
	"strconv"
	"testing"

	"veneer/api"
	"veneer/branch"
	"veneer/flat"
	"veneer/tree"
)

// plainOrder tells the order the plainest way: each event is held against all those ahead of it, and then the next time is looked for in all of them, again and again.
func plainOrder(l []Event) ([]int, int) {
	for i, e := range l {
		switch {
		case e.From < 1, e.At != 0 && e.At < e.From, e.Back && e.At == 0, e.Back && e.To < e.At:
			return nil, i
		}
		for _, earlier := range l[:i] {
			if e.At != 0 && e.At == earlier.At {
				return nil, i
			}
		}
	}
	var order []int
	for last := int64(0); ; {
		next := -1
		for i, e := range l {
			if e.At > last && (next < 0 || e.At < l[next].At) {
				next = i
			}
		}
		if next < 0 {
			return order, -1
		}
		order, last = append(order, next), l[next].At
	}
}

// plainRun has the model do the calls, and tells it and the first event whose result isn't the model's.
func plainRun(at []api.Line, l []Event) (s *tree.System, wrong int) {
	b, e := flat.Tree(at, 65536)
	if e != 0 {
		return nil, -1
	}
	order, bad := plainOrder(l)
	if bad != -1 {
		return nil, bad
	}
	s, wrong = tree.New(b), -1
	for _, i := range order {
		if l[i].R.E == 28 {
			continue
		}
		r, want := l[i].R, s.Do(l[i].C)
		if l[i].Back && wrong < 0 && (r.E != want.E || r.N != want.N || r.S != want.S || r.T.Kind != want.T.Kind || r.T.Size != want.T.Size || r.T.Link != want.T.Link) {
			wrong = i
		}
	}
	return s, wrong
}

// plainLines tells a branch's lines, asked of the branch itself.
func plainLines(b *branch.Branch) []api.Line {
	var all []api.Line
	var visit func(dir int, above string)
	visit = func(dir int, above string) {
		entries, _ := b.All(dir)
		for _, x := range entries {
			data, _ := b.Read(x.Ino, 0, 65536)
			target, _ := b.Target(x.Ino)
			all = append(all, api.Line{Path: above + "/" + x.Name, Kind: b.Kind(x.Ino), Data: string(data) + target})
			visit(x.Ino, above+"/"+x.Name)
		}
	}
	visit(1, "")
	return all
}

// order asks for an order twice, holds it to the plain one, and spoils what was answered first: the events stay as they are, and the second answer is that of before.
func order(t *testing.T, l []Event) ([]int, int) {
	t.Helper()
	was := slices.Clone(l)
	want, bad := plainOrder(l)
	for range 2 {
		got, i := Order(l)
		if !slices.Equal(got, want) || i != bad {
			t.Fatalf("Order of %s: %v, %d; want %v, %d", told(l), got, i, want, bad)
		}
		got = got[:cap(got)]
		for i := range got {
			got[i] = -9
		}
		if !slices.Equal(l, was) {
			t.Fatalf("Order of %s: they are now %s", told(was), told(l))
		}
	}
	return want, bad
}

// check checks twice, and holds what is told to the plain way; the lines and the events stay as they are.
func check(t *testing.T, at []api.Line, l []Event) (bool, int) {
	t.Helper()
	order(t, l)
	lines, events := slices.Clone(at), slices.Clone(l)
	s, wrong := plainRun(at, l)
	right := s != nil && wrong < 0
	for range 2 {
		if is, i := Check(at, l); is != right || i != wrong {
			t.Fatalf("Check of %s: %t, %d; want %t, %d", told(l), is, i, right, wrong)
		}
		if !slices.Equal(l, events) || !slices.Equal(at, lines) {
			t.Fatalf("Check of %s: they, or the %d lines, have changed: %s", told(events), len(lines), told(l))
		}
	}
	return right, wrong
}

// lines asks for lines twice, holds them to the plain ones, and spoils those that were told first; the lines and the events that were given stay as they are.
func lines(t *testing.T, at []api.Line, l []Event) ([]api.Line, bool) {
	t.Helper()
	given, events := slices.Clone(at), slices.Clone(l)
	s, _ := plainRun(at, l)
	var want []api.Line
	if s != nil {
		want = plainLines(s.Branch())
	}
	for range 2 {
		got, is := Lines(at, l)
		if !slices.Equal(got, want) || is != (s != nil) {
			t.Fatalf("Lines behind %s: %d lines, %t; want %d, %t", told(l), len(got), is, len(want), s != nil)
		}
		got = got[:cap(got)]
		for i := range got {
			got[i] = api.Line{Path: "spoilt", Kind: -9, Data: "spoilt"}
		}
		if !slices.Equal(l, events) || !slices.Equal(at, given) {
			t.Fatalf("Lines behind %s: they, or the %d lines, have changed: %s", told(events), len(given), told(l))
		}
	}
	return want, s != nil
}

// told are events as a test tells them.
func told(l []Event) string {
	text := strconv.Itoa(len(l)) + " events"
	for _, e := range l[:min(len(l), 30)] {
		text += ", Op " + strconv.Itoa(e.C.Op) + " " + strconv.Quote(e.C.A[:min(len(e.C.A), 40)]) + " E " + strconv.Itoa(int(e.R.E)) +
			" (" + strconv.FormatInt(e.From, 10) + " " + strconv.FormatInt(e.At, 10) + " " + strconv.FormatInt(e.To, 10) + " " + strconv.FormatBool(e.Back) + ")"
	}
	return text
}
