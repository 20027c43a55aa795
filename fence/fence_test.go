package fence_test

import (
	"math"
	"slices"
	"strconv"
	"testing"

	"sallyport/api"
	"sallyport/fence"
	"sallyport/tlb"
)

// size: as the document's number says it.
const size = 16

// whatever, as the chapter writes it.
const whatever = -1

// naming: a call that names a page or a frame, and a mark.
type naming struct {
	name string
	do   func(x *tlb.TLB, s api.State, at, mark int) int
	goes func(e api.Entry, s api.State, at, mark int) bool
}

// calls: what the chapter says of each, word by word.
var calls = []naming{
	{"Sfence", fence.Sfence, func(e api.Entry, s api.State, at, mark int) bool {
		if s.V && e.Vmid != hgatpsMark(s) {
			return false
		}
		return e.V == s.V && meant(at, e.Page) && meant(mark, e.Asid)
	}},
	{"Guest", fence.Guest, func(e api.Entry, s api.State, at, mark int) bool {
		return e.V && e.Vmid == hgatpsMark(s) && meant(at, e.Page) && meant(mark, e.Asid)
	}},
	{"Host", fence.Host, func(e api.Entry, _ api.State, at, mark int) bool {
		return e.V && meant(mark, e.Vmid) && meant(at, e.Guest)
	}},
}

func meant(asked, is int) bool { return asked == -1 || asked == is }

// hgatpsMark: the third of Hgatp's bytes.
func hgatpsMark(s api.State) int { return int(s.C[api.Hgatp] / 65536 % 256) }

// oddNumbers: below -1, beyond what a page or a mark can be, such as would be others if only some of their bits counted.
var oddNumbers = []int{
	math.MinInt, math.MinInt + 5, -1 << 32, -65536, -257, -256, -251, -5, -2,
	256, 257, 261, 512, 65535, 65536, 1<<32 - 1, 1 << 32, 1<<32 + 5, math.MaxInt - 1, math.MaxInt,
}

// mixed: numbers that differ in all their bytes, by a rule.
func mixed(n int) uint64 {
	v := uint64(n+1) * 0x9e3779b97f4a7c15
	v ^= v >> 29
	v *= 0xbf58476d1ce4e5b9
	return v ^ v>>32
}

// stateOf: with a state's other parts full of other numbers, which none of the calls is to look at.
func stateOf(v bool, hgatp uint64) api.State {
	s := api.State{PC: mixed(1), Level: api.Super, V: v, Done: mixed(2)}
	for i := range s.X {
		s.X[i] = mixed(100 + i)
	}
	for i := range s.C {
		s.C[i] = mixed(200 + i)
	}
	s.C[api.Hgatp] = hgatp
	return s
}

// marked: Hgatp with that mark; around it all bits or none.
func marked(vmid int, around bool) uint64 {
	h := uint64(vmid) << 16
	if around {
		h |= ^uint64(0xff << 16)
	}
	return h
}

// core: whose neighbours differ from it.
var core = api.Entry{Valid: true, V: true, Page: 5, Asid: 6, Vmid: 7, Frame: 8, Bits: 0xcf, Host: 0xdf, Guest: 9}

// like: e with one field or some changed.
func like(e api.Entry, change func(e *api.Entry)) api.Entry {
	change(&e)
	return e
}

// neighbours: sixteen that can stand side by side. A TLB holds no two that differ in Guest alone, so these differ in Page, too.
func neighbours(e api.Entry) []api.Entry {
	return []api.Entry{
		e,
		like(e, func(e *api.Entry) { e.V = !e.V }),
		like(e, func(e *api.Entry) { e.Page++ }),
		like(e, func(e *api.Entry) { e.Page += 256 }),
		like(e, func(e *api.Entry) { e.Asid++ }),
		like(e, func(e *api.Entry) { e.Asid += 256 }),
		like(e, func(e *api.Entry) { e.Vmid++ }),
		like(e, func(e *api.Entry) { e.Vmid += 256 }),
		like(e, func(e *api.Entry) { e.Page += 2; e.Guest++ }),
		like(e, func(e *api.Entry) { e.Page += 3; e.Guest += 256 }),
		like(e, func(e *api.Entry) { e.Page = -2 }),
		like(e, func(e *api.Entry) { e.Asid = -2 }),
		like(e, func(e *api.Entry) { e.Vmid = -2 }),
		like(e, func(e *api.Entry) { e.Page, e.Guest = -1, -2 }),
		like(e, func(e *api.Entry) { e.Asid, e.Vmid, e.Guest = -1, -1, -1 }),
		like(e, func(e *api.Entry) { e.V = !e.V; e.Vmid++ }),
	}
}

func tlbOf(t *testing.T, entries []api.Entry) *tlb.TLB {
	t.Helper()
	x := tlb.New()
	for _, e := range entries {
		x.Fill(e, 0)
	}
	if !slices.Equal(x.All(), entries) {
		t.Fatalf("these can't stand side by side: %+v", entries)
	}
	return x
}

// filler: stands in a place that was free.
func filler(i int) api.Entry { return api.Entry{Valid: true, Page: 1<<50 + i, Asid: 1 << 51} }

// mustLeave: of the entries in x those that go go, each out of its own place; a second call finds none of them.
func mustLeave(t *testing.T, what string, entries []api.Entry, do func(x *tlb.TLB) int, goes func(e api.Entry) bool) {
	t.Helper()
	x := tlbOf(t, entries)
	beside := x.Copy()
	left := slices.DeleteFunc(slices.Clone(entries), goes)
	if n := do(x); n != len(entries)-len(left) {
		t.Errorf("%s: %d went, want %d", what, n, len(entries)-len(left))
	}
	if got := x.All(); !slices.Equal(got, left) {
		t.Errorf("%s: there are %+v, want %+v", what, got, left)
	}
	mustBeFree(t, what, entries, x.Copy(), goes)
	if n := do(x); n != 0 || !slices.Equal(x.All(), left) {
		t.Errorf("%s: for the second time %d went", what, n)
	}
	if !slices.Equal(beside.All(), entries) {
		t.Errorf("%s: a copy of before was touched", what)
	}
}

// mustBeFree: what x is filled up with stands where those were that went, then where nothing was.
func mustBeFree(t *testing.T, what string, entries []api.Entry, x *tlb.TLB, goes func(e api.Entry) bool) {
	t.Helper()
	var want []api.Entry
	free := 0
	for i := range size {
		if i < len(entries) && !goes(entries[i]) {
			want = append(want, entries[i])
			continue
		}
		x.Fill(filler(free), 0)
		want = append(want, filler(free))
		free++
	}
	if !slices.Equal(x.All(), want) {
		t.Errorf("%s: filled up there are %+v, want %+v", what, x.All(), want)
	}
}

// mustFence: mustLeave of a call, as calls tells what goes; the state stays as it is.
func mustFence(t *testing.T, entries []api.Entry, c naming, s api.State, at, mark int) {
	t.Helper()
	was := s
	what := "P14.1: " + c.name + " of " + strconv.Itoa(at) + ", " + strconv.Itoa(mark) + ", V " + strconv.FormatBool(s.V) + ", Hgatp " + strconv.FormatUint(s.C[api.Hgatp], 16) + ", of " + strconv.Itoa(len(entries))
	mustLeave(t, what, entries, func(x *tlb.TLB) int { return c.do(x, s, at, mark) }, func(e api.Entry) bool { return c.goes(e, s, at, mark) })
	if s != was {
		t.Errorf("%s: the state changed", what)
	}
}

func turned(list []api.Entry, by int) []api.Entry {
	return append(slices.Clone(list[by:]), list[:by]...)
}

// Which of the neighbours go, by their places in the list.
func TestNamedAmongNeighbours(t *testing.T) {
	for _, c := range []struct {
		call     int
		v        bool
		vmid     int
		at, mark int
		which    []int
	}{
		{0, true, 7, 5, 6, []int{0}},
		{0, true, 7, whatever, 6, []int{0, 2, 3, 8, 9, 10, 13}},
		{0, true, 7, 5, whatever, []int{0, 4, 5, 11}},
		{0, true, 7, whatever, whatever, []int{0, 2, 3, 4, 5, 8, 9, 10, 11, 13}},
		{0, true, 7, 6, 6, []int{2}},
		{0, true, 7, 5, 7, []int{4}},
		{0, true, 7, 261, 6, []int{3}},
		{0, true, 7, 5, 262, []int{5}},
		{0, true, 7, -2, 6, []int{10}},
		{0, true, 7, 5, -2, []int{11}},
		{0, true, 7, 6, 7, nil},
		{0, true, 8, 5, 6, []int{6}},
		{0, true, 8, whatever, whatever, []int{6}},
		{0, true, 9, whatever, whatever, nil},
		{0, true, 255, 5, 6, nil}, // nor that of Vmid -1
		{0, false, 7, 5, 6, []int{1, 15}},
		{0, false, 0, whatever, whatever, []int{1, 15}},
		{0, false, 8, 5, whatever, []int{1, 15}},
		{0, false, 7, 6, 6, nil},
		{0, false, 7, 5, 7, nil},
		{1, true, 7, 5, 6, []int{0}},
		{1, false, 7, 5, 6, []int{0}},
		{1, false, 7, whatever, 6, []int{0, 2, 3, 8, 9, 10, 13}},
		{1, false, 7, 5, whatever, []int{0, 4, 5, 11}},
		{1, false, 7, whatever, whatever, []int{0, 2, 3, 4, 5, 8, 9, 10, 11, 13}},
		{1, false, 8, whatever, whatever, []int{6}},
		{1, false, 9, whatever, whatever, nil},
		{2, false, 0, 9, 7, []int{0, 2, 3, 4, 5, 10, 11}},
		{2, true, 8, 9, 7, []int{0, 2, 3, 4, 5, 10, 11}},
		{2, false, 0, whatever, 7, []int{0, 2, 3, 4, 5, 8, 9, 10, 11, 13}},
		{2, false, 0, 9, whatever, []int{0, 2, 3, 4, 5, 6, 7, 10, 11, 12}},
		{2, false, 0, whatever, whatever, []int{0, 2, 3, 4, 5, 6, 7, 8, 9, 10, 11, 12, 13, 14}},
		{2, false, 0, 10, 7, []int{8}},
		{2, false, 0, 265, 7, []int{9}},
		{2, false, 0, 9, 8, []int{6}},
		{2, false, 0, 9, 263, []int{7}},
		{2, false, 0, 9, -2, []int{12}},
		{2, false, 0, -2, 7, []int{13}},
		{2, false, 0, 10, 8, nil},
	} {
		all := neighbours(core)
		what := "P14.1: " + calls[c.call].name + " of " + strconv.Itoa(c.at) + ", " + strconv.Itoa(c.mark) + ", V " + strconv.FormatBool(c.v) + ", VMID " + strconv.Itoa(c.vmid)
		s := stateOf(c.v, marked(c.vmid, false))
		mustLeave(t, what, all, func(x *tlb.TLB) int { return calls[c.call].do(x, s, c.at, c.mark) }, func(e api.Entry) bool {
			return slices.Contains(c.which, slices.Index(all, e))
		})
	}
}

// askedOf: numbers to name: none, those there are, those beside them, odd ones.
func askedOf(n int) []int {
	return append([]int{whatever, -2, 0, n, n + 1, n + 256, 255}, oddNumbers...)
}

func TestAllNamesAmongNeighbours(t *testing.T) {
	all := neighbours(core)
	for _, c := range calls {
		ats := askedOf(core.Page)
		marks := askedOf(core.Asid)
		if c.name == "Host" {
			ats, marks = askedOf(core.Guest), askedOf(core.Vmid)
		}
		for _, at := range ats {
			for _, mark := range marks {
				for _, v := range []bool{false, true} {
					for _, vmid := range []int{core.Vmid, core.Vmid + 1, 0} {
						mustFence(t, all, c, stateOf(v, marked(vmid, at == mark)), at, mark)
					}
				}
			}
		}
	}
}

// Entries may bear numbers that no page and no mark is; they go by these as by others.
func TestOddEntries(t *testing.T) {
	for _, n := range append([]int{-1}, oddNumbers...) {
		all := []api.Entry{core}
		for _, f := range []func(e *api.Entry){
			func(e *api.Entry) { e.Page = n },
			func(e *api.Entry) { e.Asid = n },
			func(e *api.Entry) { e.Vmid = n },
			func(e *api.Entry) { e.Page, e.Guest = 77, n },
			func(e *api.Entry) { e.Page, e.Asid, e.Vmid, e.Guest = n, n, n, n },
		} {
			all = append(all, like(core, f), like(core, func(e *api.Entry) { f(e); e.V = false }))
		}
		for _, c := range calls {
			for _, at := range []int{whatever, n, core.Page, core.Guest} {
				for _, mark := range []int{whatever, n, core.Asid, core.Vmid} {
					for _, v := range []bool{false, true} {
						mustFence(t, all, c, stateOf(v, marked(n&255, true)), at, mark)
						mustFence(t, all, c, stateOf(v, marked(core.Vmid, false)), at, mark)
					}
				}
			}
		}
	}
}

// Two that differ in Guest alone never stand side by side: of two TLBs Host takes the one's.
func TestGuestAlone(t *testing.T) {
	other := like(core, func(e *api.Entry) { e.Guest++ })
	for _, c := range calls {
		for _, e := range []api.Entry{core, other} {
			for _, at := range []int{core.Page, core.Guest, other.Guest} {
				for _, mark := range []int{core.Asid, core.Vmid} {
					for _, v := range []bool{false, true} {
						mustFence(t, []api.Entry{e}, c, stateOf(v, marked(core.Vmid, false)), at, mark)
					}
				}
			}
		}
	}
	s := stateOf(false, 0)
	x, y := tlbOf(t, []api.Entry{core}), tlbOf(t, []api.Entry{other})
	if n, m := fence.Host(x, s, core.Guest, core.Vmid), fence.Host(y, s, core.Guest, core.Vmid); n != 1 || m != 0 {
		t.Errorf("P14.1: Host of a frame: %d, and of an entry of another frame %d", n, m)
	}
}

// Hgatp's mark is its bits 16 to 23, whether Hgatp is on or not, whatever its other bits are.
func TestHgatpTurned(t *testing.T) {
	for vmid := range 256 {
		var all []api.Entry
		for _, n := range []int{vmid, vmid ^ 1, vmid ^ 128, vmid + 256, vmid - 256, vmid<<8 + 1<<20, vmid | 1<<32} {
			for _, v := range []bool{false, true} {
				all = append(all, like(core, func(e *api.Entry) { e.Vmid, e.V = n, v }))
			}
		}
		for _, around := range []bool{false, true} {
			for _, v := range []bool{false, true} {
				s := stateOf(v, marked(vmid, around))
				for _, c := range calls {
					mustFence(t, all, c, s, whatever, whatever)
					mustFence(t, all, c, s, core.Page, core.Asid)
					mustFence(t, all, c, s, core.Guest, vmid)
				}
			}
		}
	}
}

// Level isn't asked: a guest is V.
func TestLevels(t *testing.T) {
	all := neighbours(core)
	for _, level := range []int{math.MinInt, -1, api.User, api.Super, 2, api.Machine, 4, 5, math.MaxInt} {
		for _, v := range []bool{false, true} {
			s := stateOf(v, marked(core.Vmid, false))
			s.Level = level
			for _, c := range calls {
				mustFence(t, all, c, s, whatever, whatever)
				mustFence(t, all, c, s, core.Page, core.Asid)
				mustFence(t, all, c, s, core.Guest, core.Vmid)
			}
		}
	}
}

// The numbers of registers beside Hgatp, and of an empty state, count for nothing.
func TestOtherRegisters(t *testing.T) {
	all := neighbours(core)
	for i := range api.CSRs {
		for _, v := range []bool{false, true} {
			s := api.State{V: v}
			s.C[i] = marked(core.Vmid, true)
			for _, c := range calls {
				mustFence(t, all, c, s, whatever, whatever)
			}
		}
	}
}

// groups: calls that name one number alone, and entries, the i-th one of which is named or isn't: what isn't looked at is unlike in each.
var groups = []struct {
	name     string
	call     int
	v        bool
	at, mark int
	entry    func(i int, isNamed bool) api.Entry
}{
	{"Sfence of a page", 0, false, 5, whatever, func(i int, isNamed bool) api.Entry {
		return api.Entry{Valid: true, Page: either(isNamed, 5, 100+i), Asid: i, Vmid: 50 - i, Guest: 20 + i}
	}},
	{"Sfence of a mark", 0, false, whatever, 6, func(i int, isNamed bool) api.Entry {
		return api.Entry{Valid: true, Page: i, Asid: either(isNamed, 6, 100+i), Vmid: 50 - i, Guest: 20 + i}
	}},
	{"Sfence of a guest's page", 0, true, 5, whatever, func(i int, isNamed bool) api.Entry {
		return api.Entry{Valid: true, V: true, Page: either(isNamed, 5, 100+i), Asid: i, Vmid: 7, Guest: 20 + i}
	}},
	{"Sfence of a guest's mark", 0, true, whatever, 6, func(i int, isNamed bool) api.Entry {
		return api.Entry{Valid: true, V: true, Page: i, Asid: either(isNamed, 6, 100+i), Vmid: 7, Guest: 20 + i}
	}},
	{"Sfence of a guest", 0, true, whatever, whatever, func(i int, isNamed bool) api.Entry {
		return api.Entry{Valid: true, V: true, Page: i, Asid: 50 - i, Vmid: either(isNamed, 7, 100+i), Guest: 20 + i}
	}},
	{"Guest of a page", 1, false, 5, whatever, func(i int, isNamed bool) api.Entry {
		return api.Entry{Valid: true, V: true, Page: either(isNamed, 5, 100+i), Asid: i, Vmid: 7, Guest: 20 + i}
	}},
	{"Guest of a mark", 1, true, whatever, 6, func(i int, isNamed bool) api.Entry {
		return api.Entry{Valid: true, V: true, Page: i, Asid: either(isNamed, 6, 100+i), Vmid: 7, Guest: 20 + i}
	}},
	{"Guest of all", 1, false, whatever, whatever, func(i int, isNamed bool) api.Entry {
		return api.Entry{Valid: true, V: isNamed, Page: i, Asid: 50 - i, Vmid: 7, Guest: 20 + i}
	}},
	{"Host of a frame", 2, false, 9, whatever, func(i int, isNamed bool) api.Entry {
		return api.Entry{Valid: true, V: true, Page: i, Asid: 50 - i, Vmid: 20 + i, Guest: either(isNamed, 9, 100+i)}
	}},
	{"Host of a mark", 2, true, whatever, 7, func(i int, isNamed bool) api.Entry {
		return api.Entry{Valid: true, V: true, Page: i, Asid: 50 - i, Vmid: either(isNamed, 7, 100+i), Guest: 20 + i}
	}},
	{"Host of all", 2, false, whatever, whatever, func(i int, isNamed bool) api.Entry {
		return api.Entry{Valid: true, V: isNamed, Page: i, Asid: 50 - i, Vmid: 20 + i, Guest: 70 - i}
	}},
}

func either(first bool, a, b int) int {
	if first {
		return a
	}
	return b
}

// How many there are, and where among them those stand that are named.
func TestHowMany(t *testing.T) {
	for how, isNamed := range map[string]func(i int) bool{
		"all":       func(int) bool { return true },
		"none":      func(int) bool { return false },
		"the first": func(i int) bool { return i == 0 },
		"the last":  func(i int) bool { return i == size-1 },
		"some":      func(i int) bool { return i%3 == 1 },
		"others":    func(i int) bool { return i%3 != 1 },
		"both ends": func(i int) bool { return i == 0 || i == size-1 },
		"a half":    func(i int) bool { return i >= size/2 },
	} {
		for _, g := range groups {
			for n := range size + 1 {
				var all []api.Entry
				for i := range n {
					all = append(all, g.entry(i, isNamed(i)))
				}
				s := stateOf(g.v, marked(7, n%2 == 0))
				what := "P14.1: " + g.name + ", " + how + ", of " + strconv.Itoa(n)
				mustLeave(t, what, all, func(x *tlb.TLB) int { return calls[g.call].do(x, s, g.at, g.mark) }, func(e api.Entry) bool { return isNamed(slices.Index(all, e)) })
			}
		}
	}
}

// Whichever place the named one stands in.
func TestEachPlace(t *testing.T) {
	for by := range size {
		all := turned(neighbours(core), by)
		for _, c := range calls {
			for _, v := range []bool{false, true} {
				s := stateOf(v, marked(core.Vmid, false))
				mustFence(t, all, c, s, core.Page, core.Asid)
				mustFence(t, all, c, s, core.Guest, core.Vmid)
				mustFence(t, all, c, s, whatever, whatever)
				mustFence(t, all[:by], c, s, whatever, core.Asid)
				mustFence(t, all[:by], c, s, core.Page, whatever)
			}
		}
	}
}

// There is a gap ahead of, between and behind what is there.
func TestGaps(t *testing.T) {
	all := neighbours(core)
	for _, c := range calls {
		for first := range size {
			for second := range size {
				x := tlbOf(t, all)
				x.Drop(all[first])
				x.Drop(all[second])
				was := x.All()
				s := stateOf(true, marked(core.Vmid, false))
				want := slices.DeleteFunc(slices.Clone(was), func(e api.Entry) bool { return c.goes(e, s, core.Page, whatever) })
				if n := c.do(x, s, core.Page, whatever); n != len(was)-len(want) || !slices.Equal(x.All(), want) {
					t.Errorf("P14.1: %s with gaps at %d, %d: %d went, there are %+v, want %+v", c.name, first, second, n, x.All(), want)
				}
			}
		}
	}
}
