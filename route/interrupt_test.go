package route_test

import (
	"slices"
	"strconv"
	"testing"

	"sallyport/api"
	"sallyport/route"
)

// numbers: of the interrupts, in no order of theirs.
var numbers = [4]int{5, 6, 9, 10}

const (
	interrupts = uint64(1<<5 | 1<<6 | 1<<9 | 1<<10)
	hosts      = uint64(1<<5 | 1<<9)
	guests     = uint64(1<<6 | 1<<10)
)

// bitsOf: those of the interrupts that n's four lowest bits pick.
func bitsOf(n int) uint64 {
	var bits uint64
	for i, number := range numbers {
		bits |= when(n>>i&1 > 0, one(number))
	}
	return bits
}

// answer: what Interrupt answers.
type answer struct {
	cause uint64
	level int
	v, ok bool
}

func interrupt(s api.State, timer, line bool) answer {
	cause, level, v, ok := route.Interrupt(s, timer, line)
	return answer{cause, level, v, ok}
}

// told: an answer that names an interrupt.
func told(number, level int, v bool) answer {
	return answer{api.TopBit + uint64(number), level, v, true}
}

func (a answer) text() string {
	return strconv.FormatUint(a.cause, 16) + ", " + strconv.Itoa(a.level) + ", " + strconv.FormatBool(a.v) + ", " + strconv.FormatBool(a.ok)
}

func textOf(s api.State, timer, line bool) string {
	out := "at " + strconv.Itoa(s.Level) + ", V " + strconv.FormatBool(s.V) + ", timer " + strconv.FormatBool(timer) + ", line " + strconv.FormatBool(line)
	for _, r := range []struct {
		name  string
		index int
	}{{"Hvip", api.Hvip}, {"Mie", api.Mie}, {"Mideleg", api.Mideleg}, {"Hideleg", api.Hideleg}, {"Mstatus", api.Mstatus}, {"Vsstatus", api.Vsstatus}} {
		out += ", " + r.name + " " + strconv.FormatUint(s.C[r.index], 16)
	}
	return out
}

// mustCome: Interrupt's answer; the state stays as it is.
func mustCome(t *testing.T, what string, s api.State, timer, line bool, want answer) {
	t.Helper()
	was := s
	if got := interrupt(s, timer, line); got != want {
		t.Errorf("%s: Interrupt %s: %s, want %s", what, textOf(s, timer, line), got.text(), want.text())
	}
	if s != was {
		t.Errorf("%s: the state changed", what)
	}
}

func TestEnabled(t *testing.T) {
	held := []uint64{0, all, 1 << 5, 1 << 9, hosts, guests, interrupts, ^interrupts}
	for bit := range 64 {
		held = append(held, one(bit), ^one(bit))
	}
	for _, hvip := range held {
		for _, mie := range held {
			for lines := range 4 {
				timer, line := lines&1 > 0, lines&2 > 0
				want := (hvip | when(timer, 32) | when(line, 512)) & mie
				for _, around := range both {
					s := stateOf(levels[lines%3], around, around)
					s.C[api.Hvip], s.C[api.Mie] = hvip, mie
					was := s
					if got := route.Enabled(s, timer, line); got != want {
						t.Errorf("P15.2: Enabled %s: %x, want %x", textOf(s, timer, line), got, want)
					}
					if s != was {
						t.Error("P15.2: Enabled changed the state")
					}
				}
			}
		}
	}
}

// What is enabled hangs on no one's level, and on no other register.
func TestEnabledWhoever(t *testing.T) {
	for _, level := range slices.Concat(noLevels, levels) {
		for _, v := range both {
			for i := range api.CSRs {
				s := stateOf(level, v, false)
				s.C[i] = all
				want := [4]uint64{}
				if i == api.Mie {
					want = [4]uint64{0, 32, 512, 544}
				}
				for lines, w := range want {
					if got := route.Enabled(s, lines&1 > 0, lines&2 > 0); got != w {
						t.Errorf("P15.2: Enabled %s, register %d: %x, want %x", textOf(s, lines&1 > 0, lines&2 > 0), i, got, w)
					}
				}
			}
		}
	}
}

// who runs, and what it lets come.
type who struct {
	level          int
	v              bool
	mie, sie, vsie bool
}

// whos: the three levels, in a guest or not, with each setting of the bits that let interrupts come.
func whos() []who {
	var list []who
	for _, level := range levels {
		for n := range 16 {
			list = append(list, who{level, n&1 > 0, n&2 > 0, n&4 > 0, n&8 > 0})
		}
	}
	return list
}

// of: a state that w runs in.
func (w who) of(around bool) api.State {
	s := stateOf(w.level, w.v, around)
	s = with(s, api.Mstatus, 2|8, when(w.sie, 2)|when(w.mie, 8))
	return with(s, api.Vsstatus, 2, when(w.vsie, 2))
}

// byMachine, bySuper, byGuest: whether who runs may be interrupted by what these take.
func (w who) byMachine() bool { return w.level < api.Machine || w.mie }

func (w who) bySuper() bool {
	switch w.level {
	case api.User:
		return true
	case api.Super:
		return w.v || w.sie
	}
	return w.v && w.level < api.Machine
}

func (w who) byGuest() bool {
	if !w.v {
		return false
	}
	switch w.level {
	case api.User:
		return true
	case api.Super:
		return w.vsie
	}
	return false
}

// first: the chapter's order, written out one by one.
func (w who) first(enabled, mideleg, hideleg uint64) answer {
	is := func(bit uint64) bool { return enabled&bit > 0 }
	switch {
	case is(512&^mideleg) && w.byMachine():
		return told(9, api.Machine, false)
	case is(32&^mideleg) && w.byMachine():
		return told(5, api.Machine, false)
	case is(512&mideleg) && w.bySuper():
		return told(9, api.Super, false)
	case is(32&mideleg) && w.bySuper():
		return told(5, api.Super, false)
	case is(1024&^hideleg) && w.bySuper():
		return told(10, api.Super, false)
	case is(64&^hideleg) && w.bySuper():
		return told(6, api.Super, false)
	case is(1024&hideleg) && w.byGuest():
		return told(9, api.Super, true)
	case is(64&hideleg) && w.byGuest():
		return told(5, api.Super, true)
	}
	return answer{}
}

// pendingIn: a state in which those of the interrupts are pending, and these lines with it.
func pendingIn(s api.State, pending uint64) (api.State, bool, bool) {
	return with(s, api.Hvip, interrupts, pending&guests), pending&32 > 0, pending&512 > 0
}

// What is pending, enabled and delegated, each against each, of whoever runs.
func TestInterruptsOfAll(t *testing.T) {
	for k, w := range whos() {
		for pending := range 16 {
			for enabled := range 16 {
				around := (k+pending+enabled)%2 > 0
				s, timer, line := pendingIn(w.of(around), bitsOf(pending))
				s = with(s, api.Mie, interrupts, bitsOf(enabled))
				for mideleg := range 16 {
					for hideleg := range 16 {
						m, h := bitsOf(mideleg), bitsOf(hideleg)
						s := with(with(s, api.Mideleg, interrupts, m), api.Hideleg, interrupts, h)
						mustCome(t, "P15.2", s, timer, line, w.first(bitsOf(pending&enabled), m, h))
					}
				}
			}
		}
		if t.Failed() {
			return
		}
	}
}

// In an empty state and in a full one, by all that is enabled of what is pending.
func TestInterruptsAround(t *testing.T) {
	for _, w := range whos() {
		for pending := range 16 {
			for deleg := range 16 {
				for _, around := range both {
					s, timer, line := pendingIn(w.of(around), bitsOf(pending))
					s = with(s, api.Mie, interrupts, interrupts)
					s = with(s, api.Mideleg, interrupts, bitsOf(deleg))
					s = with(s, api.Hideleg, interrupts, bitsOf(deleg))
					want := w.first(bitsOf(pending), bitsOf(deleg), bitsOf(deleg))
					mustCome(t, "P15.2", s, timer, line, want)
					if pending == 0 && want.ok {
						t.Error("P15.2: the test's own: one comes of nothing")
					}
				}
			}
		}
	}
}

// The bits 5 and 9 pend in Hvip too, where a state has them there.
func TestInterruptsOfHvip(t *testing.T) {
	for _, w := range whos() {
		for pending := range 16 {
			for enabled := range 16 {
				for deleg := range 16 {
					s := with(w.of(deleg%2 > 0), api.Hvip, interrupts, bitsOf(pending))
					s = with(s, api.Mie, interrupts, bitsOf(enabled))
					s = with(s, api.Mideleg, interrupts, bitsOf(deleg))
					s = with(s, api.Hideleg, interrupts, bitsOf(deleg))
					mustCome(t, "P15.2: of Hvip", s, false, false, w.first(bitsOf(pending&enabled), bitsOf(deleg), bitsOf(deleg)))
				}
			}
		}
	}
}

// row: a setting, and its answer, by hand.
type row struct {
	level             int
	v                 bool
	mstatus, vsstatus uint64
	mideleg, hideleg  uint64
	pending           uint64
	want              answer
}

func TestInterruptsByHand(t *testing.T) {
	none := answer{}
	for k, r := range []row{
		// The machine's: below it always, in it with MIE.
		{api.User, false, 0, 0, 0, 0, 512, told(9, 3, false)},
		{api.User, false, 0, 0, 0, 0, 32, told(5, 3, false)},
		{api.User, true, 0, 0, 0, 0, 512, told(9, 3, false)},
		{api.Super, false, 0, 0, 0, 0, 32, told(5, 3, false)},
		{api.Super, true, 0, 0, 0, 0, 512, told(9, 3, false)},
		{api.Machine, false, 0, 0, 0, 0, 512, none},
		{api.Machine, false, ^uint64(8), all, 0, 0, 512, none},
		{api.Machine, false, 8, 0, 0, 0, 512, told(9, 3, false)},
		{api.Machine, false, 8, 0, 0, 0, 32, told(5, 3, false)},
		{api.Machine, false, 8, 0, 512, 0, 512, none},
		// The supervisor's: of a guest and of the user always, of the supervisor with SIE.
		{api.User, false, 0, 0, 512, 0, 512, told(9, 1, false)},
		{api.User, false, 0, 0, 32, 0, 32, told(5, 1, false)},
		{api.User, false, 0, 0, 0, 0, 1024, told(10, 1, false)},
		{api.User, false, 0, 0, 0, 0, 64, told(6, 1, false)},
		{api.User, true, 0, 0, 512, 0, 512, told(9, 1, false)},
		{api.User, true, 0, 0, 0, 0, 64, told(6, 1, false)},
		{api.Super, true, 0, 0, 32, 0, 32, told(5, 1, false)},
		{api.Super, true, 0, 0, 0, 0, 1024, told(10, 1, false)},
		{api.Super, false, 0, 0, 512, 0, 512, none},
		{api.Super, false, ^uint64(2), all, 512, 0, 512, none},
		{api.Super, false, 2, 0, 512, 0, 512, told(9, 1, false)},
		{api.Super, false, 2, 0, 32, 0, 32, told(5, 1, false)},
		{api.Super, false, 2, 0, 0, 0, 1024, told(10, 1, false)},
		{api.Super, false, 2, 0, 0, 0, 64, told(6, 1, false)},
		{api.Super, false, 0, 2, 0, 0, 64, none},
		{api.Machine, false, all, all, 544, 0, interrupts, none},
		// The guest's: with V alone, of its user always, of its supervisor with SIE; told as one less.
		{api.User, true, 0, 0, 0, 1024, 1024, told(9, 1, true)},
		{api.User, true, 0, 0, 0, 64, 64, told(5, 1, true)},
		{api.Super, true, 0, 0, 0, 1024, 1024, none},
		{api.Super, true, all, ^uint64(2), 0, 1024, 1024, none},
		{api.Super, true, 0, 2, 0, 1024, 1024, told(9, 1, true)},
		{api.Super, true, 0, 2, 0, 64, 64, told(5, 1, true)},
		{api.User, false, all, all, 0, 1024, 1024, none},
		{api.Super, false, all, all, 0, 64, 64, none},
		{api.Machine, false, all, all, 0, 1088, 1088, none},
		// Of several the first.
		{api.User, true, 0, 0, 0, 1088, interrupts, told(9, 3, false)},
		{api.User, true, 0, 0, 512, 1088, interrupts, told(5, 3, false)},
		{api.User, true, 0, 0, 544, 1088, interrupts, told(9, 1, false)},
		{api.User, true, 0, 0, 544, 1088, interrupts - 512, told(5, 1, false)},
		{api.User, true, 0, 0, 544, 1088, 1088, told(9, 1, true)},
		{api.User, true, 0, 0, 544, 64, 1088, told(10, 1, false)},
		{api.User, true, 0, 0, 544, 1024, 1088, told(6, 1, false)},
		{api.User, true, 0, 0, 544, 0, 1088, told(10, 1, false)},
		{api.User, true, 0, 0, 544, 1024, 1088 + 32, told(5, 1, false)},
		{api.User, true, 0, 0, 0, 0, 32 + 1024, told(5, 3, false)},
		{api.Super, true, 0, 0, 544, 64, 64, none},
		{api.Super, true, 0, 2, 544, 64, 64, told(5, 1, true)},
		{api.Super, false, 0, 2, 32, 64, 512 + 64 + 32, told(9, 3, false)},
		{api.Super, false, 0, 2, 544, 1088, interrupts, none},
		{api.Super, false, 2, 2, 544, 1088, interrupts, told(9, 1, false)},
		{api.Super, false, 2, 2, 544, 1088, 1088, none},
		{api.Machine, false, 8, 0, 512, 0, interrupts, told(5, 3, false)},
		{api.Machine, false, 2, 2, 512, 0, interrupts, none},
		{api.User, true, 0, 0, 0, 0, 0, none},
	} {
		what := "P15.2: row " + strconv.Itoa(k)
		s := stateOf(r.level, r.v, false)
		s.C[api.Mstatus], s.C[api.Vsstatus], s.C[api.Mideleg], s.C[api.Hideleg] = r.mstatus, r.vsstatus, r.mideleg, r.hideleg
		s, timer, line := pendingIn(s, r.pending)
		mustCome(t, what+", pending alone", s, timer, line, none)
		s.C[api.Mie] = interrupts
		mustCome(t, what, s, timer, line, r.want)
		s, timer, line = pendingIn(s, 0)
		mustCome(t, what+", enabled alone", s, timer, line, none)
	}
}

// Bits that are no interrupt's never come, pending and enabled though they are.
func TestNoInterrupts(t *testing.T) {
	for _, w := range whos() {
		for bit := range 64 {
			if one(bit)&interrupts > 0 {
				continue
			}
			for _, held := range []uint64{one(bit), ^interrupts} {
				for deleg := range 4 {
					s := w.of(false)
					s.C[api.Hvip], s.C[api.Mie] = held, held
					s.C[api.Mideleg], s.C[api.Hideleg] = when(deleg&1 > 0, all), when(deleg&2 > 0, all)
					mustCome(t, "P15.2: bit "+strconv.Itoa(bit), s, true, true, answer{})
				}
			}
		}
	}
}

// The other registers, and what else a state holds, count for nothing.
func TestInterruptsOfOtherRegisters(t *testing.T) {
	for _, w := range whos() {
		for pending := range 16 {
			for i := range api.CSRs {
				switch i {
				case api.Mstatus, api.Vsstatus, api.Mideleg, api.Hideleg, api.Hvip, api.Mie:
					continue
				}
				s, timer, line := pendingIn(w.of(false), bitsOf(pending))
				s.C[api.Mie] = interrupts
				want := w.first(bitsOf(pending), 0, 0)
				s.C[i] = all
				s.X[i], s.PC, s.Done = all, all, all
				mustCome(t, "P15.2: register "+strconv.Itoa(i), s, timer, line, want)
			}
		}
	}
}

// Of levels that are none those below the machine are below it, others as it; nobody of them is the user or the supervisor.
func TestInterruptsOfNoLevels(t *testing.T) {
	for _, level := range noLevels {
		for n := range 16 {
			w := who{level, n&1 > 0, n&2 > 0, n&4 > 0, n&8 > 0}
			for pending := range 16 {
				for deleg := range 16 {
					s, timer, line := pendingIn(w.of(deleg == n), bitsOf(pending))
					s = with(s, api.Mie, interrupts, interrupts)
					s = with(s, api.Mideleg, interrupts, bitsOf(deleg))
					s = with(s, api.Hideleg, interrupts, bitsOf(deleg))
					mustCome(t, "P15.2", s, timer, line, w.first(bitsOf(pending), bitsOf(deleg), bitsOf(deleg)))
				}
			}
		}
	}
}

// Of whatever level, an answer is one of those that the chapter has, of a bit that is enabled and sent there.
func TestInterruptsOfAnyLevel(t *testing.T) {
	for _, level := range slices.Concat(noLevels, levels) {
		for n := range 16 {
			w := who{level, n&1 > 0, n&2 > 0, n&4 > 0, n&8 > 0}
			for pending := range 16 {
				for deleg := range 16 {
					s, timer, line := pendingIn(w.of(false), bitsOf(pending))
					s.C[api.Mie], s.C[api.Mideleg], s.C[api.Hideleg] = interrupts, bitsOf(deleg), bitsOf(deleg)
					if got := interrupt(s, timer, line); !isOneOf(got, bitsOf(pending), bitsOf(deleg), w.v) {
						t.Errorf("P15.2: Interrupt %s: %s", textOf(s, timer, line), got.text())
					}
				}
			}
		}
	}
}

func isOneOf(got answer, enabled, deleg uint64, v bool) bool {
	own := enabled &^ deleg
	sent := enabled & deleg
	switch got {
	case answer{}:
		return true
	case told(9, api.Machine, false):
		return own&512 > 0
	case told(5, api.Machine, false):
		return own&32 > 0
	case told(9, api.Super, false):
		return sent&512 > 0
	case told(5, api.Super, false):
		return sent&32 > 0
	case told(10, api.Super, false):
		return own&1024 > 0
	case told(6, api.Super, false):
		return own&64 > 0
	case told(9, api.Super, true):
		return sent&1024 > 0 && v
	case told(5, api.Super, true):
		return sent&64 > 0 && v
	}
	return false
}
