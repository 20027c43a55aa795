package route_test

import (
	"math"
	"strconv"
	"testing"

	"sallyport/api"
	"sallyport/route"
)

const all = uint64(math.MaxUint64)

// noLevels: levels that are none of the three.
var noLevels = []int{math.MinInt, -1 << 32, -4, -3, -2, -1, 2, 4, 5, 7, 8, 1 << 32, 1<<32 + 1, 1<<32 + 3, math.MaxInt}

var levels = []int{api.User, api.Super, api.Machine}

var both = []bool{false, true}

// one: a number with that bit alone.
func one(n int) uint64 { return uint64(1) << n }

// when: those bits, or none.
func when(is bool, bits uint64) uint64 {
	if is {
		return bits
	}
	return 0
}

// stateOf: all its other bits are clear, or set.
func stateOf(level int, v, around bool) api.State {
	s := api.State{Level: level, V: v}
	if !around {
		return s
	}
	for i := range s.X {
		s.X[i] = all
	}
	for i := range s.C {
		s.C[i] = all
	}
	s.PC, s.Done = all, all
	return s
}

// with: the register of control at index has of those bits just these.
func with(s api.State, index int, those, these uint64) api.State {
	s.C[index] = s.C[index]&^those | these&those
	return s
}

// setting: of a register: what it holds, told without shifting.
type setting struct {
	v   uint64
	has func(n uint64) bool
}

func nothing() setting { return setting{0, func(uint64) bool { return false }} }

func everything() setting { return setting{all, func(n uint64) bool { return n <= 63 }} }

func alone(bit int) setting {
	return setting{one(bit), func(n uint64) bool { return n == uint64(bit) }}
}

func allBut(bit int) setting {
	return setting{^one(bit), func(n uint64) bool { return n <= 63 && n != uint64(bit) }}
}

func settings() []setting {
	list := []setting{nothing(), everything()}
	for bit := range 64 {
		list = append(list, alone(bit), allBut(bit))
	}
	return list
}

// causes: all that have a bit, and such as have none, though their lower bits are of one that has.
func causes() []uint64 {
	var list []uint64
	for n := range uint64(64) {
		list = append(list, n, 64+n, 128+n, 192+n, 256+n, 1<<16+n, 1<<32+n, 1<<62+n, api.TopBit|n, all-n)
	}
	return list
}

// mustGo: Exception's answer; the state stays as it is.
func mustGo(t *testing.T, what string, s api.State, cause uint64, level int, v bool) {
	t.Helper()
	was := s
	l, g := route.Exception(s, cause)
	if l != level || g != v {
		t.Errorf("%s: Exception of %x at %d, %v, Medeleg %x, Hedeleg %x: %d, %v, want %d, %v", what, cause, s.Level, s.V, s.C[api.Medeleg], s.C[api.Hedeleg], l, g, level, v)
	}
	if s != was {
		t.Errorf("%s: the state changed", what)
	}
}

// mustGoBy: mustGo for who runs, by the settings of Medeleg and Hedeleg.
func mustGoBy(t *testing.T, level int, v, around bool, m, h setting, cause uint64) {
	t.Helper()
	s := stateOf(level, v, around)
	s.C[api.Medeleg], s.C[api.Hedeleg] = m.v, h.v
	to, guest := api.Super, v && h.has(cause)
	if level == api.Machine || !m.has(cause) {
		to, guest = api.Machine, false
	}
	mustGo(t, "P15.1", s, cause, to, guest)
}

func TestExceptions(t *testing.T) {
	const bit = 1 << 20
	for _, c := range []struct {
		level            int
		v                bool
		medeleg, hedeleg uint64
		cause            uint64
		to               int
		guest            bool
	}{
		{api.User, false, 0, 0, 20, api.Machine, false},
		{api.User, false, bit, 0, 20, api.Super, false},
		{api.User, false, 0, bit, 20, api.Machine, false},
		{api.User, false, bit, bit, 20, api.Super, false},
		{api.Super, false, 0, 0, 20, api.Machine, false},
		{api.Super, false, bit, 0, 20, api.Super, false},
		{api.Super, false, 0, bit, 20, api.Machine, false},
		{api.Super, false, bit, bit, 20, api.Super, false},
		{api.Machine, false, 0, 0, 20, api.Machine, false},
		{api.Machine, false, bit, 0, 20, api.Machine, false},
		{api.Machine, false, 0, bit, 20, api.Machine, false},
		{api.Machine, false, bit, bit, 20, api.Machine, false},
		{api.User, true, 0, 0, 20, api.Machine, false},
		{api.User, true, bit, 0, 20, api.Super, false},
		{api.User, true, 0, bit, 20, api.Machine, false},
		{api.User, true, bit, bit, 20, api.Super, true},
		{api.Super, true, 0, 0, 20, api.Machine, false},
		{api.Super, true, bit, 0, 20, api.Super, false},
		{api.Super, true, 0, bit, 20, api.Machine, false},
		{api.Super, true, bit, bit, 20, api.Super, true},
		{api.Machine, true, 0, 0, 20, api.Machine, false},
		{api.Machine, true, bit, 0, 20, api.Machine, false},
		{api.Machine, true, 0, bit, 20, api.Machine, false},
		{api.Machine, true, bit, bit, 20, api.Machine, false},
		{api.User, true, all, all, 0, api.Super, true},
		{api.User, true, all, all, 63, api.Super, true},
		{api.User, true, all, all, 64, api.Machine, false},
		{api.User, true, all, all, 65, api.Machine, false},
		{api.User, true, 1, 1, 64, api.Machine, false},
		{api.User, true, all, all, 1 << 32, api.Machine, false},
		{api.User, true, all, all, api.TopBit, api.Machine, false},
		{api.User, true, all, all, all, api.Machine, false},
		{api.User, false, 1 << 63, 0, 63, api.Super, false},
		{api.Super, true, 1 << 63, 1 << 63, 63, api.Super, true},
		{api.Super, true, 1 << 63, 1 << 62, 63, api.Super, false},
		{api.Super, true, 1 << 62, 1 << 63, 63, api.Machine, false},
	} {
		for _, around := range both {
			s := stateOf(c.level, c.v, around)
			s.C[api.Medeleg], s.C[api.Hedeleg] = c.medeleg, c.hedeleg
			mustGo(t, "P15.1", s, c.cause, c.to, c.guest)
		}
	}
}

// Each setting of the one with those of the other that are near it.
func TestExceptionsOfAllCauses(t *testing.T) {
	list := settings()
	for k, a := range list {
		near := []setting{nothing(), everything(), list[k], list[k^1], list[(k+2)%len(list)], list[(k+3)%len(list)]}
		for _, cause := range causes() {
			for _, b := range near {
				for _, level := range levels {
					for _, v := range both {
						mustGoBy(t, level, v, cause%3 == 0, a, b, cause)
						mustGoBy(t, level, v, cause%5 == 0, b, a, cause)
					}
				}
			}
		}
		if t.Failed() {
			return
		}
	}
}

// A level that is none isn't the machine: by Medeleg and Hedeleg.
func TestExceptionsOfNoLevels(t *testing.T) {
	list := []setting{nothing(), everything(), alone(12), allBut(12), alone(63), allBut(0)}
	for _, level := range noLevels {
		for _, m := range list {
			for _, h := range list {
				for _, cause := range []uint64{0, 1, 11, 12, 13, 63, 64, 76, 1<<32 + 12, api.TopBit | 12, all} {
					for _, v := range both {
						mustGoBy(t, level, v, false, m, h, cause)
						mustGoBy(t, level, v, true, m, h, cause)
					}
				}
			}
		}
	}
}

// Where an exception goes hangs on who runs, Medeleg and Hedeleg, on nothing else.
func TestExceptionsOfOtherRegisters(t *testing.T) {
	for i := range api.CSRs {
		if i == api.Medeleg || i == api.Hedeleg {
			continue
		}
		for _, v := range both {
			for _, held := range []uint64{all, 1 << 12, ^uint64(1 << 12)} {
				s := stateOf(api.User, v, false)
				s.C[i] = held
				mustGo(t, "P15.1: register "+strconv.Itoa(i), s, 12, api.Machine, false)
				s.C[api.Medeleg] = 1 << 12
				mustGo(t, "P15.1: register "+strconv.Itoa(i), s, 12, api.Super, false)
				s.C[api.Hedeleg] = 1 << 12
				mustGo(t, "P15.1: register "+strconv.Itoa(i), s, 12, api.Super, v)
			}
		}
	}
}
