package eject_test

import (
	"math/rand"
	"slices"
	"testing"

	"triage/api"
	"triage/eject"
)

// pool is a row of members, as these tests keep it.
type pool struct {
	c       api.Config
	now     int
	next    int // Id
	members []member
}

type member struct {
	id int
	o  api.Outing
}

func (p *pool) come() {
	p.next++
	p.members = append(p.members, member{id: p.next})
}

// out tells how many are.
func (p *pool) out() int {
	n := 0
	for _, m := range p.members {
		if m.o.Out {
			n++
		}
	}
	return n
}

// mayBeOut tells how many.
func (p *pool) mayBeOut() int { return eject.Cap(p.c, len(p.members)) }

// goOut puts that one out where there is room, and tells if there was.
func (p *pool) goOut(at int) bool {
	m := &p.members[at]
	if m.o.Out || eject.Room(p.c, len(p.members), p.out()) < 1 {
		return false
	}
	m.o = eject.Out(p.c, m.o, p.now)
	return true
}

// letIn lets so many in, those whose time is up first.
func (p *pool) letIn(k int) {
	var l []api.Timer
	for _, m := range p.members {
		if m.o.Out {
			l = append(l, api.Timer{At: m.o.Until, Kind: api.TBack, Id: m.id})
		}
	}
	for _, id := range eject.First(l, k) {
		at := slices.IndexFunc(p.members, func(m member) bool { return m.id == id })
		p.members[at].o = eject.Back(p.members[at].o)
	}
}

// sweep lets fade, and lets those in whose time is up.
func (p *pool) sweep() {
	up := 0
	for i, m := range p.members {
		p.members[i].o = eject.Fade(m.o)
		if m.o.Out && m.o.Until <= p.now {
			up++
		}
	}
	p.letIn(up)
}

// drawnPool is one of up to as many members as there may be.
func drawnPool(r *rand.Rand) *pool {
	p := &pool{c: part(r.Intn(1+r.Intn(101)), r.Intn(2) == 0), now: r.Intn(1000)}
	p.c.Base = 1 + r.Intn(100)
	for range r.Intn(api.MaxHosts + 1) {
		p.come()
	}
	return p
}

// TestCapStays: P14.4: never more are out than Cap, through long runs of outs and backs, where members come, and go once so many are let in as have no room any more.
func TestCapStays(t *testing.T) {
	r := rand.New(rand.NewSource(146))
	met, full := 0, 0
	for range 200 {
		p := drawnPool(r)
		for step := range 300 {
			p.now += r.Intn(20)
			n := len(p.members)
			switch kind := r.Intn(8); {
			case kind < 4 && n > 0:
				if p.goOut(r.Intn(n)) {
					met++
				}
			case kind == 4:
				p.sweep()
			case kind == 5:
				p.letIn(r.Intn(3))
			case kind == 6 && n < api.MaxHosts:
				p.come()
			case kind == 7 && n > 0:
				at := r.Intn(n)
				p.members = slices.Delete(p.members, at, at+1)
				p.letIn(p.out() - p.mayBeOut())
			}
			if p.out() > p.mayBeOut() {
				t.Fatalf("step %d: %d of %d are out, and %d may be", step, p.out(), len(p.members), p.mayBeOut())
			}
			if p.out() > 0 && p.out() == p.mayBeOut() {
				full++
			}
		}
	}
	if met < 2000 || full < 10000 {
		t.Errorf("%d went out, and so many as may be were out %d times: too little is asked", met, full)
	}
}

// TestCapWhereMembersGo: P14.4: where members go, and so more are out than may be, nobody goes out till there is room again: then no more are out than Cap.
func TestCapWhereMembersGo(t *testing.T) {
	r := rand.New(rand.NewSource(147))
	met, over := 0, 0
	for range 300 {
		p := drawnPool(r)
		for step := range 300 {
			p.now += r.Intn(20)
			n, was := len(p.members), p.out()
			switch kind := r.Intn(8); {
			case kind < 3 && n > 0:
				if p.goOut(r.Intn(n)) {
					met++
					if p.out() != was+1 || p.out() > p.mayBeOut() {
						t.Fatalf("step %d: %d went to %d of %d, and %d may be", step, was, p.out(), n, p.mayBeOut())
					}
				}
			case kind == 3:
				p.sweep()
			case kind == 4:
				p.letIn(1)
			case kind == 5 && n < api.MaxHosts:
				p.come()
			case kind > 5 && n > 0:
				at := r.Intn(n)
				p.members = slices.Delete(p.members, at, at+1)
			}
			if p.out() > max(was, p.mayBeOut()) {
				t.Fatalf("step %d: %d are out", step, p.out())
			}
			if p.out() > p.mayBeOut() {
				over++
				tellsRoom(t, p.c, len(p.members), p.out(), 0)
			}
		}
	}
	if met < 2000 || over < 500 {
		t.Errorf("%d went out, and more than may be were out %d times: too little is asked", met, over)
	}
}

// TestCapAtOnce: P14.4: also where all the room is taken at once.
func TestCapAtOnce(t *testing.T) {
	r := rand.New(rand.NewSource(148))
	for range 2000 {
		p := drawnPool(r)
		for i := range r.Intn(len(p.members) + 1) {
			p.members[i].o = eject.Out(p.c, p.members[i].o, p.now)
		}
		was := p.out()
		room := eject.Room(p.c, len(p.members), was)
		for i := was; i < was+room; i++ {
			p.members[i].o = eject.Out(p.c, p.members[i].o, p.now)
		}
		if p.out() != max(was, p.mayBeOut()) {
			t.Errorf("%d and room for %d are %d; %d may be", was, room, p.out(), p.mayBeOut())
		}
	}
}

// TestEverLonger: P14.2: each time it is out longer by Base, up to MaxTimes.
func TestEverLonger(t *testing.T) {
	for _, longer := range []int{1, 2, 100, 3000, 9999, 10000} {
		o, now := api.Outing{}, 0
		for times := 1; times <= 30; times++ {
			o = eject.Out(base(longer), o, now)
			if want := outing(now, now+longer*min(times, maxTimes), min(times, maxTimes)); o != want {
				t.Fatalf("base %d, time %d: %+v; want %+v", longer, times, o, want)
			}
			now = o.Until + times
			o = eject.Back(o)
		}
	}
}

// TestForgiven: P14.2: each sweep in which it is not out forgives one time, and no sweep in which it is.
func TestForgiven(t *testing.T) {
	c := base(100)
	for outs := range 14 {
		for sweeps := range 14 {
			o := api.Outing{}
			for range outs {
				o = eject.Out(c, o, 50)
				for range sweeps {
					tellsFade(t, o, o)
				}
				o = eject.Back(o)
			}
			left := min(outs, maxTimes)
			for range sweeps {
				o = eject.Fade(o)
				left -= min(left, 1)
				if o != inside(0, 0, left) {
					t.Errorf("%d outs: %+v; want %d", outs, o, left)
				}
			}
			tellsOut(t, c, o, 50, outing(50, 50+100*min(left+1, maxTimes), min(left+1, maxTimes)))
		}
	}
}

// TestTimesInBounds: P14.2: whatever befalls it, how often it was out stays within its bounds, and so do its times.
func TestTimesInBounds(t *testing.T) {
	r := rand.New(rand.NewSource(149))
	some := someInts()
	for range 500 {
		o := api.Outing{Out: r.Intn(2) == 0, From: 0, Until: maxTime, Times: some[r.Intn(len(some))]}
		for range 60 {
			switch r.Intn(4) {
			case 0:
				o = eject.Back(o)
			case 1:
				o = eject.Fade(o)
			default:
				o = eject.Out(base(1+r.Intn(10000)), o, some[r.Intn(len(some))])
			}
			if o.Times < 0 || o.Times > maxTimes || o.From < 0 || o.Until < o.From || o.Until > maxTime {
				t.Fatalf("%+v", o)
			}
		}
	}
}
