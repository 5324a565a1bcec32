package flight

import (
	"math/rand/v2"
	"slices"
	"testing"

	"veneer/api"
)

// step makes a call out of a few: a Join or a Land of each key by each participant, or a Result of one. The n-th Land has the n-th result.
func (b *both) step(which, keys, whos, n int) {
	b.t.Helper()
	switch part := which / (keys * whos); part {
	case 0:
		b.tryJoin(which/whos, which%whos)
	case 1:
		which -= keys * whos
		b.tryLand(which/whos, which%whos, api.Errno(n))
	default:
		b.tryResult(which - 2*keys*whos)
	}
}

// each makes every list of so many calls.
func each(t *testing.T, keys, whos, long int) {
	t.Helper()
	kinds := 2*keys*whos + whos
	lists := 1
	for range long {
		lists *= kinds
	}
	for list := range lists {
		b := &both{t: t, f: New(), p: &plain{}, seen: []int{-1, 0, 1, 2}}
		for n := range long {
			b.step(list%kinds, keys, whos, n)
			list /= kinds
		}
		b.look()
		b.ask()
	}
}

// TestEach: P16.1, P16.2: every short list of calls of a few participants.
func TestEach(t *testing.T) {
	each(t, 2, 2, 4)
	each(t, 1, 3, 5)
	each(t, 2, 3, 3)
}

// TestRandom: P16.1, P16.2: many calls, with keys and participants of which many are alike.
func TestRandom(t *testing.T) {
	r := rand.New(rand.NewPCG(16, 1))
	for range 300 {
		b := newBoth(t)
		keys, whos := 1+r.IntN(5), 1+r.IntN(12)
		for range 200 {
			key, who := r.IntN(keys)-keys/2, r.IntN(whos)-whos/2
			switch r.IntN(6) {
			case 0, 1, 2:
				b.tryJoin(key, who)
			case 3:
				// Mostly by who leads, so that flights end.
				if lead, is := b.p.lead(key); is && r.IntN(4) > 0 {
					who = lead
				}
				b.tryLand(key, who, api.Errno(r.IntN(41)))
			default:
				b.tryResult(who)
			}
			if r.IntN(4) == 0 {
				b.look()
			}
		}
		b.look()
		b.ask()
	}
}

// ticket is what somebody has come to: the flight that they lead or have joined, and whether they are still owed its result.
type ticket struct {
	trip, key    int
	leads, fetch bool
}

// crowd is participants who hold a table to what they know of their own calls alone.
type crowd struct {
	t       *testing.T
	f       *Table
	r       *rand.Rand
	tickets map[int]ticket
	owed    map[int]map[int]int // of each trip, how often each who joined has received its result
	trips   int
	ended   map[int]api.Errno // the results of the trips that have ended
}

// one checks that there is at most one flight with a key, and that it has one leader, who is not among those who joined.
func (c *crowd) one() {
	c.t.Helper()
	keys, leaders := c.f.Keys(), map[int]int{}
	for i, key := range keys {
		if i > 0 && keys[i-1] >= key {
			c.t.Fatalf("Keys: %v", keys)
		}
		lead, is := c.f.Lead(key)
		if _, twice := leaders[lead]; !is || twice || slices.Contains(c.f.Joined(key), lead) {
			c.t.Fatalf("Lead(%d): %d, %t", key, lead, is)
		}
		leaders[lead] = key
	}
	for who, k := range c.tickets {
		if key, leads := leaders[who]; k.leads != leads || leads && key != k.key {
			c.t.Fatalf("%d leads %d, %t: %+v", who, key, leads, k)
		}
	}
	if led := len(c.tickets) - c.followers(); led != len(keys) {
		c.t.Fatalf("%d lead, %d keys", led, len(keys))
	}
}

// followers is how many have joined and not received their result.
func (c *crowd) followers() int {
	n := 0
	for _, k := range c.tickets {
		if !k.leads {
			n++
		}
	}
	return n
}

// come has somebody lead or join.
func (c *crowd) come(key, who int) {
	c.t.Helper()
	had, is := c.f.Lead(key)
	lead, e := c.f.Join(key, who)
	switch _, has := c.tickets[who]; {
	case has:
		if lead || e != api.EBUSY {
			c.t.Fatalf("Join(%d, %d), who is busy: %t, %d", key, who, lead, e)
		}
		return
	case e != api.OK || lead == is:
		c.t.Fatalf("Join(%d, %d), led by %d, %t: %t, %d", key, who, had, is, lead, e)
	case lead:
		c.trips++
		c.tickets[who] = ticket{trip: c.trips, key: key, leads: true}
		c.owed[c.trips] = map[int]int{}
	default:
		trip := c.tickets[had].trip
		c.tickets[who] = ticket{trip: trip, key: key}
		c.owed[trip][who] = 0
	}
}

// end has somebody who leads end the flight, with a result that no other flight has.
func (c *crowd) end(who int) {
	c.t.Helper()
	k, has := c.tickets[who]
	if !has || !k.leads {
		return
	}
	e := api.Errno(k.trip)
	all, g := c.f.Land(k.key, who, e)
	if g != api.OK || len(all) != len(c.owed[k.trip]) {
		c.t.Fatalf("Land(%d, %d): %v, %d, want %v", k.key, who, all, g, c.owed[k.trip])
	}
	for _, w := range all {
		if c.tickets[w] != (ticket{trip: k.trip, key: k.key}) {
			c.t.Fatalf("Land(%d, %d): %d, who is at %+v", k.key, who, w, c.tickets[w])
		}
		c.tickets[w] = ticket{trip: k.trip, key: k.key, fetch: true}
	}
	delete(c.tickets, who)
	c.ended[k.trip] = e
}

// fetch has somebody ask for their result.
func (c *crowd) fetch(who int) {
	c.t.Helper()
	e, is := c.f.Result(who)
	k := c.tickets[who]
	if is != k.fetch || is && e != c.ended[k.trip] || !is && e != api.OK {
		c.t.Fatalf("Result(%d): %d, %t: %+v", who, e, is, k)
	}
	if is {
		c.owed[k.trip][who]++
		delete(c.tickets, who)
	}
}

// TestOnce: P16.3: over many calls there is at most one flight with a key, which has one leader, and each who joined receives its result once.
func TestOnce(t *testing.T) {
	for seed := range uint64(60) {
		c := &crowd{
			t: t, f: New(), r: rand.New(rand.NewPCG(16, 2+seed)),
			tickets: map[int]ticket{}, owed: map[int]map[int]int{}, ended: map[int]api.Errno{},
		}
		keys, whos := 1+c.r.IntN(4), 1+c.r.IntN(16)
		for range 600 {
			key, who := c.r.IntN(keys), c.r.IntN(whos)
			switch c.r.IntN(5) {
			case 0, 1:
				c.come(key, who)
			case 2:
				c.end(who)
			default:
				c.fetch(who)
			}
			c.one()
		}
		for who := range whos {
			c.end(who)
		}
		for range 2 {
			for who := range whos {
				c.fetch(who)
			}
		}
		c.one()
		for trip, all := range c.owed {
			for who, times := range all {
				if times != 1 {
					t.Errorf("trip %d: %d has received its result %d times", trip, who, times)
				}
			}
		}
		if len(c.tickets) != 0 || len(c.ended) != c.trips || len(c.f.Keys()) != 0 {
			t.Errorf("%d trips, %d ended, %v at something", c.trips, len(c.ended), c.tickets)
		}
	}
}

// worker is one who needs the same work done as others: whoever leads does it in steps, and the others wait for what comes of it.
type worker struct {
	came, leads bool
	steps       int
	got         []api.Errno
}

// turn lets a worker take their next step, and tells whether they did a step of the work.
func (w *worker) turn(t *testing.T, f *Table, who int) bool {
	t.Helper()
	switch {
	case len(w.got) > 0:
	case !w.came:
		lead, e := f.Join(7, who)
		if e != api.OK {
			t.Fatalf("Join(7, %d): %d", who, e)
		}
		w.came, w.leads = true, lead
	case w.leads && w.steps > 0:
		w.steps--
		return true
	case w.leads:
		if _, e := f.Land(7, who, api.ENOSPC); e != api.OK {
			t.Fatalf("Land(7, %d): %d", who, e)
		}
		w.got = append(w.got, api.ENOSPC)
	default:
		if e, is := f.Result(who); is {
			w.got = append(w.got, e)
		}
	}
	return false
}

// TestShared: P16.3: of those who come ahead of the end one does the work, all of it once, and all have its result, whoever is picked.
func TestShared(t *testing.T) {
	r := rand.New(rand.NewPCG(16, 99))
	for range 300 {
		f, all := New(), make([]worker, 1+r.IntN(64))
		for who := range all {
			all[who].steps = 5
			if r.IntN(2) == 0 {
				all[who].turn(t, f, who)
			}
		}
		leaders, steps := 0, 0
		waits := func(w worker) bool { return w.got == nil }
		for turns := 0; slices.ContainsFunc(all, waits); turns++ {
			if turns > 1e6 {
				t.Fatalf("%d turns, and some still wait: %v", turns, all)
			}
			who := r.IntN(len(all))
			if all[who].turn(t, f, who) {
				steps++
			}
		}
		for who, w := range all {
			if !slices.Equal(w.got, []api.Errno{api.ENOSPC}) || f.Busy(who) {
				t.Fatalf("%d has %v", who, w.got)
			}
			if w.leads {
				leaders++
			}
		}
		// Whoever comes behind the end begins anew: so each leader did all of it, and no other one did any.
		if leaders == 0 || steps != 5*leaders || len(f.Keys()) != 0 {
			t.Fatalf("%d leaders, %d steps", leaders, steps)
		}
	}
}
