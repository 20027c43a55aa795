package trap_test

import (
	"testing"

	"sallyport/api"
	"sallyport/trap"
)

// here: what is to be as it was behind a trap and the return from it.
type here struct {
	level int
	v     bool
	pc    uint64
	come  [3]bool // who lets interrupts come: the machine, the supervisor, the guest's
}

func hereOf(s api.State) here {
	return here{s.Level, s.V, s.PC, [3]bool{has(s.C[api.Mstatus], 3), has(s.C[api.Mstatus], 1), has(s.C[api.Vsstatus], 1)}}
}

// fitting: the return that undoes a trap of that way.
func fitting(w way) ret {
	if w.level == api.Machine {
		return mret
	}
	return sret
}

// froms: from where that one takes traps: not from above, the guest's only from in the guest.
func froms(w way) []api.State {
	var list []api.State
	for _, level := range levels {
		for _, v := range both {
			if level <= w.level && (!v || level < api.Machine) && (v || !w.v) {
				list = append(list, own(level, v))
			}
		}
	}
	return list
}

// mustComeBack: from after, which is s behind a trap that w took, the return comes back to where s was.
func mustComeBack(t *testing.T, what string, w way, s, after api.State) api.State {
	t.Helper()
	got, cause, ok := fitting(w).call(after)
	if cause != 0 || !ok {
		t.Errorf("P16.3: %s: the return from %s, from %d, %v: %d, %v", what, w.name, s.Level, s.V, cause, ok)
	}
	if hereOf(got) != hereOf(s) {
		t.Errorf("P16.3: %s: behind %s: %v, want %v", what, w.name, hereOf(got), hereOf(s))
	}
	if got.X != s.X || got.Done != s.Done {
		t.Errorf("P16.3: %s: behind %s other registers changed", what, w.name)
	}
	return got
}

func TestBack(t *testing.T) {
	for _, w := range ways {
		list := froms(w)
		if want := map[string]int{"the machine": 5, "the supervisor": 4, "the guest's": 2}[w.name]; len(list) != want {
			t.Fatalf("%s is come to from %d", w.name, len(list))
		}
		for _, s := range list {
			for set := range 1 << len(bits) {
				s := withBits(s, set)
				after := trap.Enter(s, faults[1+set%2], w.level, w.v)
				if after.Level != w.level || after.V != w.v {
					t.Errorf("P16.3: %s: at %d, %v", w.name, after.Level, after.V)
				}
				mustComeBack(t, "alone", w, s, after)
			}
			if t.Failed() {
				return
			}
		}
	}
}

// Level 2 comes back as well, since MPP can tell it.
func TestBackToNoLevel(t *testing.T) {
	for _, v := range both {
		s := own(2, v)
		mustComeBack(t, "level 2", ways[0], s, trap.Enter(s, faults[1], api.Machine, false))
	}
}

// The supervisor that may not return stays where its trap is.
func TestNoWayBack(t *testing.T) {
	s := own(api.User, true)
	put(&s.C[api.Mstatus], 22, true)
	put(&s.C[api.Hstatus], 22, true)
	after := trap.Enter(s, faults[1], api.Super, false)
	mustReturn(t, "TSR", sret, after, returned{after, api.Illegal, false})
	after = trap.Enter(s, faults[1], api.Super, true)
	mustReturn(t, "VTSR", sret, after, returned{after, api.Virtual, false})
}

// nested: traps of these ways, one within another, and the returns, the last one's first; in between each goes on a little.
func nested(t *testing.T, what string, s api.State, list ...way) api.State {
	t.Helper()
	if len(list) == 0 {
		return s
	}
	in := trap.Enter(s, faults[1+len(list)%2], list[0].level, list[0].v)
	in.PC += 0x40
	return mustComeBack(t, what, list[0], s, nested(t, what, in, list[1:]...))
}

func TestOneWithinAnother(t *testing.T) {
	machine, host, guest := ways[0], ways[1], ways[2]
	for set := range 1 << len(bits) {
		for _, level := range []int{api.User, api.Super} {
			inGuest, outside := withBits(own(level, true), set), withBits(own(level, false), set)
			nested(t, "guest, host, machine", inGuest, guest, host, machine)
			nested(t, "guest, host", inGuest, guest, host)
			nested(t, "guest, machine", inGuest, guest, machine)
			nested(t, "host, machine", inGuest, host, machine)
			nested(t, "host, machine", outside, host, machine)
		}
		if t.Failed() {
			return
		}
	}
}

// A trap within one of the same kind leaves nothing of where the first one came from: what it noted is to be put by.
func TestOneWithinItsOwnKind(t *testing.T) {
	for _, w := range ways {
		for _, s := range froms(w) {
			if s.Level == api.Machine {
				continue
			}
			first := trap.Enter(s, faults[1], w.level, w.v)
			second := trap.Enter(first, faults[2], w.level, w.v)
			if want := entered(entered(s, faults[1], w.level, w.v), faults[2], w.level, w.v); second != want {
				t.Errorf("P16.1: %s twice:%s", w.name, unlike(second, want))
			}
			out := mustComeBack(t, "the second", w, first, second)
			out.C = first.C
			mustComeBack(t, "the first", w, s, out)
		}
	}
}

// Two returns without a trap between them: the second one goes by what the first left.
func TestTwoReturns(t *testing.T) {
	for _, r := range rets {
		for _, level := range levels {
			for _, v := range both {
				for _, s := range around(level, v) {
					first := r.want(s)
					if !first.ok {
						continue
					}
					got, _, _ := r.call(s)
					again, cause, ok := r.call(got)
					if want := r.want(first.s); again != want.s || cause != want.cause || ok != want.ok {
						t.Errorf("P16.2: %s twice: %d, %v, want %d, %v", r.name, cause, ok, want.cause, want.ok)
					}
				}
			}
		}
	}
}

// Answers hang on the arguments alone.
func TestAskedAgain(t *testing.T) {
	s := own(api.Super, true)
	first := trap.Enter(s, faults[1], api.Super, false)
	trap.Enter(own(api.User, false), faults[2], api.Machine, false)
	trap.Sret(first)
	if again := trap.Enter(s, faults[1], api.Super, false); again != first {
		t.Errorf("P16.1: asked again:%s", unlike(again, first))
	}
	back, _, _ := trap.Sret(first)
	trap.Mret(own(api.Machine, false))
	if again, _, _ := trap.Sret(first); again != back {
		t.Errorf("P16.2: asked again:%s", unlike(again, back))
	}
}
