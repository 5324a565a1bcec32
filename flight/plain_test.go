package flight

import (
	"math"
	"slices"
	"testing"

	"veneer/api"
)

// plain is a table told the plainest way: all flights and all results in the order in which they came, looked through from the front.
type plain struct {
	flights []trip
	results []gain
}

// trip is a flight: whoever came first leads it.
type trip struct {
	key  int
	came []int
}

// gain is a result that nobody has asked for.
type gain struct {
	who int
	e   api.Errno
}

// find tells where the flight with a key is, or -1.
func (p *plain) find(key int) int {
	return slices.IndexFunc(p.flights, func(f trip) bool { return f.key == key })
}

func (p *plain) busy(who int) bool {
	return slices.ContainsFunc(p.flights, func(f trip) bool { return slices.Contains(f.came, who) }) ||
		slices.ContainsFunc(p.results, func(g gain) bool { return g.who == who })
}

func (p *plain) join(key, who int) (bool, api.Errno) {
	if p.busy(who) {
		return false, api.EBUSY
	}
	if at := p.find(key); at >= 0 {
		p.flights[at].came = append(p.flights[at].came, who)
		return false, api.OK
	}
	p.flights = append(p.flights, trip{key, []int{who}})
	return true, api.OK
}

func (p *plain) land(key, who int, e api.Errno) ([]int, api.Errno) {
	at := p.find(key)
	if at < 0 {
		return nil, api.ENOENT
	}
	came := p.flights[at].came
	if came[0] != who {
		return nil, api.EPERM
	}
	p.flights = slices.Delete(p.flights, at, at+1)
	for _, w := range came[1:] {
		p.results = append(p.results, gain{w, e})
	}
	return came[1:], api.OK
}

func (p *plain) result(who int) (api.Errno, bool) {
	for i, g := range p.results {
		if g.who == who {
			p.results = slices.Delete(p.results, i, i+1)
			return g.e, true
		}
	}
	return api.OK, false
}

func (p *plain) lead(key int) (int, bool) {
	if at := p.find(key); at >= 0 {
		return p.flights[at].came[0], true
	}
	return 0, false
}

func (p *plain) joined(key int) []int {
	if at := p.find(key); at >= 0 {
		return p.flights[at].came[1:]
	}
	return nil
}

func (p *plain) keys() []int {
	var all []int
	for _, f := range p.flights {
		all = append(all, f.key)
	}
	slices.Sort(all)
	return all
}

// both is a table and the plain one beside it: each call is made on both, and what they answer held together. What is returned is spoilt, and nothing may change with it.
type both struct {
	t    *testing.T
	f    *Table
	p    *plain
	seen []int // the keys and the participants of all calls so far
}

func newBoth(t *testing.T) *both {
	t.Helper()
	b := &both{t: t, f: New(), p: &plain{}, seen: []int{0, 1, -1, math.MinInt, math.MaxInt}}
	if b.f == nil {
		t.Fatal("New: nil")
	}
	b.look()
	return b
}

// join joins on both, and holds what is told to what is wanted.
func (b *both) join(key, who int, want bool, f api.Errno) {
	b.t.Helper()
	if got, e := b.tryJoin(key, who); got != want || e != f {
		b.t.Fatalf("Join(%d, %d): %t, %d, want %t, %d", key, who, got, e, want, f)
	}
	b.look()
}

func (b *both) land(key, who int, e api.Errno, want []int, f api.Errno) {
	b.t.Helper()
	if got, g := b.tryLand(key, who, e); !slices.Equal(got, want) || g != f {
		b.t.Fatalf("Land(%d, %d, %d): %v, %d, want %v, %d", key, who, e, got, g, want, f)
	}
	b.look()
}

func (b *both) result(who int, want api.Errno, f bool) {
	b.t.Helper()
	if e, is := b.tryResult(who); e != want || is != f {
		b.t.Fatalf("Result(%d): %d, %t, want %d, %t", who, e, is, want, f)
	}
	b.look()
}

// tryJoin, tryLand and tryResult hold the table to the plain one alone, and don't look at all of it.
func (b *both) tryJoin(key, who int) (bool, api.Errno) {
	b.t.Helper()
	b.seen = append(b.seen, key, who)
	got, e := b.f.Join(key, who)
	if want, f := b.p.join(key, who); got != want || e != f {
		b.t.Fatalf("Join(%d, %d): %t, %d, want %t, %d", key, who, got, e, want, f)
	}
	return got, e
}

func (b *both) tryLand(key, who int, e api.Errno) ([]int, api.Errno) {
	b.t.Helper()
	b.seen = append(b.seen, key, who)
	got, g := b.f.Land(key, who, e)
	want, f := b.p.land(key, who, e)
	if !slices.Equal(got, want) || g != f {
		b.t.Fatalf("Land(%d, %d, %d): %v, %d, want %v, %d", key, who, e, got, g, want, f)
	}
	spoil(got)
	return want, g
}

func (b *both) tryResult(who int) (api.Errno, bool) {
	b.t.Helper()
	b.seen = append(b.seen, who)
	e, is := b.f.Result(who)
	if want, f := b.p.result(who); e != want || is != f {
		b.t.Fatalf("Result(%d): %d, %t, want %d, %t", who, e, is, want, f)
	}
	return e, is
}

// spoil changes a list, and what it has room for behind it.
func spoil(all []int) {
	all = all[:cap(all)]
	for i := range all {
		all[i] = -7
	}
}

// look holds all that both tell together, twice: what it spoils of the first answers must not be seen in the second ones.
func (b *both) look() {
	b.t.Helper()
	slices.Sort(b.seen)
	b.seen = slices.Compact(b.seen)
	for range 2 {
		b.same("Keys", b.f.Keys(), b.p.keys())
		for _, n := range b.seen {
			who, is := b.f.Lead(n)
			if want, f := b.p.lead(n); who != want || is != f {
				b.t.Fatalf("Lead(%d): %d, %t, want %d, %t", n, who, is, want, f)
			}
			b.same("Joined", b.f.Joined(n), b.p.joined(n))
			if got, want := b.f.Busy(n), b.p.busy(n); got != want {
				b.t.Fatalf("Busy(%d): %t, want %t", n, got, want)
			}
		}
	}
}

// same holds a list to the one that is wanted, and then spoils it.
func (b *both) same(what string, got, want []int) {
	b.t.Helper()
	if !slices.Equal(got, want) {
		b.t.Fatalf("%s: %v, want %v", what, got, want)
	}
	spoil(got)
}

// ask asks for everybody's result, twice: no other call tells what the results are.
func (b *both) ask() {
	b.t.Helper()
	for range 2 {
		for _, who := range slices.Clone(b.seen) {
			b.tryResult(who)
		}
	}
	b.look()
}
