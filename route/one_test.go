package route_test

import (
	"slices"
	"testing"

	"sallyport/api"
	"sallyport/route"
)

// mustNotSink: who takes a trap is a level of the three, not below the one that it came from, and the guest's only from in the guest.
func mustNotSink(t *testing.T, what string, s api.State, level int, v bool) {
	t.Helper()
	if level != api.Super && level != api.Machine {
		t.Errorf("P15.3: %s: it goes to %d", what, level)
	}
	if level < s.Level {
		t.Errorf("P15.3: %s: from %d it goes to %d", what, s.Level, level)
	}
	if v && (!s.V || level != api.Super || s.Level > api.Super) {
		t.Errorf("P15.3: %s: from %d, %v it goes to %d, %v", what, s.Level, s.V, level, v)
	}
}

func TestNoneSinks(t *testing.T) {
	for _, w := range whos() {
		for pending := range 16 {
			for mideleg := range 16 {
				for hideleg := range 16 {
					s, timer, line := pendingIn(w.of(mideleg == hideleg), bitsOf(pending))
					s = with(s, api.Mie, interrupts, interrupts)
					s = with(with(s, api.Mideleg, interrupts, bitsOf(mideleg)), api.Hideleg, interrupts, bitsOf(hideleg))
					if a := interrupt(s, timer, line); a.ok {
						mustNotSink(t, textOf(s, timer, line), s, a.level, a.v)
					}
				}
			}
		}
		for _, cause := range causes() {
			for n := range 4 {
				s := w.of(false)
				s.C[api.Medeleg], s.C[api.Hedeleg] = when(n&1 > 0, all), when(n&2 > 0, all)
				level, v := route.Exception(s, cause)
				mustNotSink(t, "an exception", s, level, v)
			}
		}
	}
}

// An interrupt alone has one that takes it, by where it is sent, whoever runs; or it waits.
func TestOneTakesAnInterrupt(t *testing.T) {
	for _, number := range numbers {
		bit := one(number)
		for sent := range 4 {
			var takers []answer
			for _, w := range whos() {
				s, timer, line := pendingIn(w.of(false), bit)
				s.C[api.Mie] = interrupts
				s.C[api.Mideleg], s.C[api.Hideleg] = when(sent&1 > 0, bit), when(sent&2 > 0, bit)
				if a := interrupt(s, timer, line); a.ok && !slices.Contains(takers, a) {
					takers = append(takers, a)
				}
			}
			if len(takers) != 1 {
				t.Errorf("P15.3: interrupt %d, sent %d: %v take it", number, sent, takers)
			}
		}
	}
}

// An exception of one cause has one that takes it, by where it is sent and whether the machine or a guest runs.
func TestOneTakesAnException(t *testing.T) {
	type taker struct {
		level int
		v     bool
	}
	for _, cause := range causes() {
		for sent := range 4 {
			for _, guest := range both {
				var takers []taker
				for _, w := range whos() {
					if w.level == api.Machine || w.v != guest {
						continue
					}
					for _, around := range both {
						s := w.of(around)
						s.C[api.Medeleg], s.C[api.Hedeleg] = when(sent&1 > 0, all), when(sent&2 > 0, all)
						level, v := route.Exception(s, cause)
						if x := (taker{level, v}); !slices.Contains(takers, x) {
							takers = append(takers, x)
						}
					}
				}
				if len(takers) != 1 {
					t.Errorf("P15.3: exception %x, sent %d: %v take it", cause, sent, takers)
				}
			}
		}
	}
}

// What one may not take goes to nobody below it: it waits until it may.
func TestItWaits(t *testing.T) {
	for _, c := range []struct {
		waits, comes     who
		mideleg, hideleg uint64
		pending          uint64
		want             answer
	}{
		{who{level: api.Machine}, who{level: api.Machine, mie: true}, 0, 0, 512, told(9, api.Machine, false)},
		{who{level: api.Machine, sie: true}, who{level: api.Super}, 0, 0, 32, told(5, api.Machine, false)},
		{who{level: api.Machine, mie: true, sie: true}, who{level: api.Super, sie: true}, 512, 0, 512, told(9, api.Super, false)},
		{who{level: api.Super, mie: true}, who{level: api.User}, 32, 0, 32, told(5, api.Super, false)},
		{who{level: api.Super, mie: true, vsie: true}, who{level: api.Super, v: true}, 0, 0, 1024, told(10, api.Super, false)},
		{who{level: api.Super, sie: true, vsie: true}, who{level: api.Super, v: true, vsie: true}, 0, 1024, 1024, told(9, api.Super, true)},
		{who{level: api.User, mie: true, sie: true, vsie: true}, who{level: api.User, v: true}, 0, 64, 64, told(5, api.Super, true)},
		{who{level: api.Super, v: true, mie: true, sie: true}, who{level: api.User, v: true}, 0, 64, 64, told(5, api.Super, true)},
	} {
		for _, around := range both {
			for _, w := range []who{c.waits, c.comes} {
				s, timer, line := pendingIn(w.of(around), c.pending)
				s = with(s, api.Mie, interrupts, interrupts)
				s = with(with(s, api.Mideleg, interrupts, c.mideleg), api.Hideleg, interrupts, c.hideleg)
				want := c.want
				if w == c.waits {
					want = answer{}
				}
				mustCome(t, "P15.3", s, timer, line, want)
			}
		}
	}
}
