package two_test

import (
	"math"
	"testing"

	"sallyport/api"
	"sallyport/mem"
	"sallyport/pte"
	"sallyport/two"
	"sallyport/walk"
)

// beyond: places that aren't translated, such as would be if only some of their bits counted among them.
var beyond = []uint64{0x10000, 0x10001, 0x10212, 0x1ffff, 0x20000, 1 << 32, 1<<32 + 0x212, 1 << 63, 1<<63 + 0x212, math.MaxUint64 - 0xffff, math.MaxUint64}

// mixed: numbers that differ in all their bytes, by a rule.
func mixed(n int) uint64 {
	v := uint64(n+1) * 0x9e3779b97f4a7c15
	v ^= v >> 29
	v *= 0xbf58476d1ce4e5b9
	return v ^ v>>32
}

func put(t *testing.T, m *mem.Memory, frame, index int, e uint64) {
	t.Helper()
	if f := m.Write(uint64(256*frame+8*index), 8, e); f != api.OK {
		t.Fatalf("entry %d of frame %d: %v", index, frame, f)
	}
}

func laid(t *testing.T, m *mem.Memory, root, low, page int, e uint64) {
	t.Helper()
	if f := walk.Lay(m, root, low, page, e); f != api.OK {
		t.Fatalf("page %d: %v", page, f)
	}
}

func entry(frame, bits int) uint64 { return uint64(frame*256 + bits) }

func mustBeSame(t *testing.T, what string, m, want *mem.Memory) {
	t.Helper()
	if !m.Same(want) {
		t.Errorf("%s: memory isn't what it was", what)
	}
}

// refusal holds that a fault is that one, and that nothing stands beside it.
func refusal(t *testing.T, what string, got answer, want api.Fault) {
	t.Helper()
	if got != (answer{f: want}) {
		t.Errorf("P12.3: %s: %+v, want the fault %+v", what, got, want)
	}
}

// world: a guest's page p is the host's frame 32 + p up to its page 31 (a low table for each 16); the guest's own root is its page 0, its low tables are its pages 1 and 2.
func world(t *testing.T) (*mem.Memory, api.State) {
	t.Helper()
	m := mem.New()
	for p := range 32 {
		laid(t, m, 8, 9+p/16, p, entry(32+p, 0xdf))
	}
	put(t, m, 32, 0, entry(1, 1))
	put(t, m, 32, 1, entry(2, 1))
	for i := range 16 {
		put(t, m, 33, i, entry(i, 0xcf))
		put(t, m, 34, i, entry(16+i, 0xdf))
	}
	s := api.State{Level: api.Super, V: true}
	s.C[api.Vsatp], s.C[api.Hgatp], s.C[api.Satp] = on|3<<16, on|9<<16|8, on|5<<16|8
	return m, s
}

func TestAskOfAllLevels(t *testing.T) {
	var s api.State
	s.C[api.Satp], s.C[api.Vsatp], s.C[api.Hgatp] = on|7<<16|5, on|8<<16|6, on|9<<16|4
	s.C[api.Mstatus], s.C[api.Vsstatus] = sum, mxr
	host := api.Asking{First: true, Sum: true, Asid: 7, Root: 5}
	guest := api.Asking{First: true, Second: true, Mxr: true, Asid: 8, Root: 6, Vmid: 9, Host: 4}
	for _, level := range append([]int{api.User, api.Super}, noLevels...) {
		if got := two.Ask(s, level, false); got != host {
			t.Errorf("P12.1: Ask(%d, false) = %+v, want %+v", level, got, host)
		}
		if got := two.Ask(s, level, true); got != guest {
			t.Errorf("P12.1: Ask(%d, true) = %+v, want %+v", level, got, guest)
		}
	}
	for i := range s.C {
		s.C[i] = math.MaxUint64
	}
	for _, v := range []bool{false, true} {
		if got := two.Ask(s, api.Machine, v); got != (api.Asking{}) {
			t.Errorf("P12.1: Ask of the machine, %v = %+v", v, got)
		}
	}
}

// TestAskOfEachBit sets each bit of each register alone, and takes each away alone: only those that the chapter names tell.
func TestAskOfEachBit(t *testing.T) {
	for _, base := range []uint64{0, on, math.MaxUint64} {
		for index := range api.CSRs {
			for bit := range 64 {
				var s api.State
				for i := range s.C {
					s.C[i] = base
				}
				s.C[index] ^= 1 << bit
				for _, level := range []int{-1, 0, 1, 2, 3} {
					for _, v := range []bool{false, true} {
						if got, want := two.Ask(s, level, v), modelAsk(s, level, v); got != want {
							t.Fatalf("P12.1: Ask(%d, %v), bit %d of register %d turned in %#x: %+v, want %+v", level, v, bit, index, base, got, want)
						}
					}
				}
			}
		}
	}
}

func TestAskOfNamedBits(t *testing.T) {
	for i, c := range []struct {
		index int
		value uint64
		v     bool
		want  api.Asking
	}{
		{api.Satp, on, false, api.Asking{First: true}},
		{api.Satp, on, true, api.Asking{}},
		{api.Satp, on | 255<<16 | 255, false, api.Asking{First: true, Asid: 255, Root: 255}},
		{api.Satp, math.MaxUint64, false, api.Asking{First: true, Asid: 255, Root: 255}},
		{api.Satp, math.MaxUint64 >> 1, false, api.Asking{}},
		{api.Vsatp, on, true, api.Asking{First: true}},
		{api.Vsatp, on, false, api.Asking{}},
		{api.Vsatp, on | 255<<16 | 255, true, api.Asking{First: true, Asid: 255, Root: 255}},
		{api.Vsatp, math.MaxUint64 >> 1, true, api.Asking{}},
		{api.Hgatp, on, true, api.Asking{Second: true}},
		{api.Hgatp, on, false, api.Asking{}},
		{api.Hgatp, on | 255<<16 | 255, true, api.Asking{Second: true, Vmid: 255, Host: 255}},
		{api.Hgatp, math.MaxUint64 >> 1, true, api.Asking{}},
		{api.Mstatus, sum, false, api.Asking{Sum: true}},
		{api.Mstatus, sum, true, api.Asking{}},
		{api.Mstatus, mxr, false, api.Asking{Mxr: true}},
		{api.Mstatus, mxr, true, api.Asking{Mxr: true}},
		{api.Vsstatus, sum, false, api.Asking{}},
		{api.Vsstatus, sum, true, api.Asking{Sum: true}},
		{api.Vsstatus, mxr, false, api.Asking{}},
		{api.Vsstatus, mxr, true, api.Asking{Mxr: true}},
		{api.Mstatus, ^uint64(sum | mxr), false, api.Asking{}},
		{api.Vsstatus, ^uint64(sum | mxr), true, api.Asking{}},
	} {
		var s api.State
		s.C[c.index] = c.value
		for _, level := range []int{api.User, api.Super} {
			if got := two.Ask(s, level, c.v); got != c.want {
				t.Errorf("P12.1: row %d, level %d: %+v, want %+v", i, level, got, c.want)
			}
		}
	}
}

func TestAskOfAllNumbers(t *testing.T) {
	var s api.State
	for n := range 256 {
		mark, root := uint64(n), uint64(255-n)
		s.C[api.Satp], s.C[api.Vsatp], s.C[api.Hgatp] = on|mark<<16|root, on|root<<16|mark, on|(mark^0x55)<<16|(root^0x33)
		if got, want := two.Ask(s, 0, false), (api.Asking{First: true, Asid: n, Root: 255 - n}); got != want {
			t.Errorf("P12.1: %+v, want %+v", got, want)
		}
		want := api.Asking{First: true, Second: true, Asid: 255 - n, Root: n, Vmid: n ^ 0x55, Host: (255 - n) ^ 0x33}
		if got := two.Ask(s, 1, true); got != want {
			t.Errorf("P12.1: %+v, want %+v", got, want)
		}
	}
}

func TestGuestWithoutSecond(t *testing.T) {
	m, s := world(t)
	s.C[api.Hgatp] &^= on
	for _, kind := range append(noKinds, kinds...) {
		for _, place := range []uint64{0, 1, 0xff, 0x100, 0x7fff, 0x8000, 0xf000, 0xfffe, 0xffff} {
			for _, in := range []*mem.Memory{m, nil} {
				if lies, code := two.Guest(in, s, place, kind); lies != place || code != 0 {
					t.Errorf("P12.2: Guest(%#x, %d) = %#x, %d", place, kind, lies, code)
				}
			}
		}
		for _, place := range beyond {
			if lies, code := two.Guest(m, s, place, kind); lies != 0 || code != 1 {
				t.Errorf("P12.2: Guest(%#x, %d) = %#x, %d, want 0, 1", place, kind, lies, code)
			}
		}
	}
}

func TestGuestGoesByHgatpAlone(t *testing.T) {
	m, s := world(t)
	for _, level := range []int{0, 1, 3} {
		for _, v := range []bool{false, true} {
			for _, other := range []uint64{0, math.MaxUint64} {
				o := s
				o.Level, o.V = level, v
				for i := range o.C {
					if i != api.Hgatp {
						o.C[i] = other
					}
				}
				if lies, code := two.Guest(m, o, 0x1f45, api.Store); lies != (32+31)*256+0x45 || code != 0 {
					t.Errorf("P12.2: state of level %d, %v, others %#x: %#x, %d", level, v, other, lies, code)
				}
			}
		}
	}
}

func TestGuestOfEachEntry(t *testing.T) {
	type row struct {
		what       string
		high, low  uint64
		root       int
		place      uint64
		lies       [3]uint64
		codes      [3]int
		otherCodes int // of kinds that are none
	}
	all := [3]int{}
	refused, astray := [3]int{1, 1, 1}, [3]int{2, 2, 2}
	each := func(v uint64) [3]uint64 { return [3]uint64{v, v, v} }
	for _, c := range []row{
		{"no entry of the root", 0, 0, 8, 0xffff, each(0), refused, 1},
		{"no entry of the low table", entry(9, 1), 0, 8, 0xffff, each(0), refused, 1},
		{"a pointer in the low table", entry(9, 1), entry(9, 1), 8, 0xffff, each(0), refused, 1},
		{"a leaf for all", entry(9, 1), entry(77, 0xdf), 8, 0xffff, each(77*256 + 0xff), all, 1},
		{"a leaf of the last frame", entry(9, 1), entry(255, 0xdf), 8, 0xff00, each(0xff00), all, 1},
		{"a leaf of frame 0", entry(9, 1), entry(0, 0xdf), 8, 0xff12, each(0x12), all, 1},
		{"a leaf to run", entry(9, 1), entry(77, 0x59), 8, 0xff80, [3]uint64{77*256 + 0x80, 0, 0}, [3]int{0, 1, 1}, 1},
		{"a leaf to read", entry(9, 1), entry(77, 0x53), 8, 0xff80, [3]uint64{0, 77*256 + 0x80, 0}, [3]int{1, 0, 1}, 1},
		{"a leaf to read and write", entry(9, 1), entry(77, 0xd7), 8, 0xff80, [3]uint64{0, 77*256 + 0x80, 77*256 + 0x80}, [3]int{1, 0, 0}, 1},
		{"a leaf not dirty", entry(9, 1), entry(77, 0x5f), 8, 0xff80, [3]uint64{77*256 + 0x80, 77*256 + 0x80, 0}, [3]int{0, 0, 1}, 1},
		{"a leaf not accessed", entry(9, 1), entry(77, 0x9f), 8, 0xff80, each(0), refused, 1},
		{"a leaf not the user's", entry(9, 1), entry(77, 0xcf), 8, 0xff80, each(0), refused, 1},
		{"a leaf to write alone", entry(9, 1), entry(77, 0xdd), 8, 0xff80, each(0), refused, 1},
		{"a leaf with bit 5", entry(9, 1), entry(77, 0xff), 8, 0xff80, each(0), refused, 1},
		{"a leaf with bit 16", entry(9, 1), entry(77, 0xdf) | 1<<16, 8, 0xff80, each(0), refused, 1},
		{"a leaf that isn't valid", entry(9, 1), entry(77, 0xde), 8, 0xff80, each(0), refused, 1},
		{"a great leaf", entry(0x70, 0xdf), 0, 8, 0xff34, each(0x7f34), all, 1},
		{"a great leaf at the end", entry(0xf0, 0xdf), 0, 8, 0xffff, each(0xffff), all, 1},
		{"a great leaf to run", entry(0x70, 0x59), 0, 8, 0xff34, [3]uint64{0x7f34, 0, 0}, [3]int{0, 1, 1}, 1},
		{"a great leaf with bit 0 of its frame", entry(0x71, 0xdf), 0, 8, 0xff34, each(0), refused, 1},
		{"a great leaf with bit 3 of its frame", entry(0x78, 0xdf), 0, 8, 0xff34, each(0), refused, 1},
		{"a low table beyond memory", entry(128, 1), 0, 8, 0xff34, each(0), astray, 2},
		{"a low table far beyond memory", entry(255, 1), 0, 8, 0xff34, each(0), astray, 2},
		{"a root beyond memory", 0, 0, 128, 0xff34, each(0), astray, 2},
		{"a root far beyond memory", 0, 0, 255, 0xff34, each(0), astray, 2},
		{"Space", entry(0x70, 0xdf), 0, 8, 0x10000, each(0), refused, 1},
		{"Space of a root beyond memory", 0, 0, 255, 0x10000, each(0), refused, 1},
	} {
		m := mem.New()
		put(t, m, 8, 15, c.high)
		put(t, m, 9, 15, c.low)
		before := m.Copy()
		var s api.State
		s.C[api.Hgatp] = on | 4<<16 | uint64(c.root)
		for _, kind := range kinds {
			if lies, code := two.Guest(m, s, c.place, kind); lies != c.lies[kind] || code != c.codes[kind] {
				t.Errorf("P12.2: %s, kind %d: %#x, %d, want %#x, %d", c.what, kind, lies, code, c.lies[kind], c.codes[kind])
			}
		}
		for _, kind := range noKinds {
			if lies, code := two.Guest(m, s, c.place, kind); lies != 0 || code != c.otherCodes {
				t.Errorf("P12.2: %s, no kind %d: %#x, %d, want 0, %d", c.what, kind, lies, code, c.otherCodes)
			}
		}
		mustBeSame(t, "P12.2: "+c.what, m, before)
	}
}

func TestGuestWithSecondBeyond(t *testing.T) {
	m, s := world(t)
	for _, place := range beyond {
		for _, kind := range kinds {
			if lies, code := two.Guest(m, s, place, kind); lies != 0 || code != 1 {
				t.Errorf("P12.2: Guest(%#x, %d) = %#x, %d, want 0, 1", place, kind, lies, code)
			}
		}
	}
}

// TestGuestIsWalks holds Guest against walk's Walk and pte's May at each page.
func TestGuestIsWalks(t *testing.T) {
	for n := range 40 {
		m, s := strange(t, n)
		root := two.Ask(s, api.Super, true).Host
		for page := range 258 {
			at := uint64(page)*256 + mixed(page)%256
			for _, kind := range kinds {
				leaf, code := walk.Walk(m, root, at)
				if code == 0 && !pte.May(int(leaf&0xff), kind, true, false, false) {
					code = 1
				}
				want := uint64(pte.Frame(leaf))*256 + at%256
				if code != 0 {
					want = 0
				}
				if lies, got := two.Guest(m, s, at, kind); lies != want || got != code {
					t.Fatalf("P12.2: memory %d: Guest(%#x, %d) = %#x, %d, want %#x, %d", n, at, kind, lies, got, want, code)
				}
			}
		}
	}
}

// strange: tables of entries of all sorts in the first frames, so that walks go astray at each of their steps.
func strange(t *testing.T, n int) (*mem.Memory, api.State) {
	t.Helper()
	m := mem.New()
	bits := []int{0xdf, 0xcf, 0xdf, 0xd9, 0x53, 0x5f, 0x4b, 0xd7, 0x9f, 1, 1, 0xdf, 0xc7, 0, 0xff, 0xdd}
	for frame := range 24 {
		for index := range 16 {
			r := mixed(n*1000 + frame*16 + index)
			to := int(r >> 8 % 24)
			switch r >> 16 % 8 {
			case 0:
				to = int(r >> 24 % 256)
			case 1, 2:
				to = int(r>>24%10) * 16
			}
			e := entry(to, bits[r>>40%16])
			if index < 4 && r>>48%4 != 0 {
				e = entry(int(r>>8%24), 1)
			}
			if r>>52%32 == 0 {
				e |= 1 << (16 + r>>57%48)
			}
			put(t, m, frame, index, e)
		}
	}
	var s api.State
	s.C[api.Satp] = on | mixed(n)%256<<16 | mixed(n)>>8%24
	s.C[api.Vsatp] = on | mixed(n)>>16%256<<16 | mixed(n)>>24%24
	s.C[api.Hgatp] = on | mixed(n)>>32%256<<16 | mixed(n)>>40%24
	return m, s
}

// TestTranslateIsTheModels: all pages of strange tables, in each mode, for each kind and level.
func TestTranslateIsTheModels(t *testing.T) {
	for n := range 48 {
		m, s := strange(t, n)
		before := m.Copy()
		// Which are on, who may what: each of both by turns.
		for i, turn := range []int{api.Satp, api.Vsatp, api.Hgatp} {
			if n>>i%4 == 3 {
				s.C[turn] &^= on
			}
		}
		s.C[api.Mstatus], s.C[api.Vsstatus] = mixed(n+7), mixed(n+9)
		for page := range 257 {
			at := uint64(page)*256 + mixed(page+n)%256
			for kind := -1; kind <= 3; kind++ {
				for level := -1; level <= 3; level++ {
					check(t, "strange tables", m, s, at, kind, level, false)
					check(t, "strange tables", m, s, at, kind, level, true)
				}
			}
		}
		mustBeSame(t, "P12.3", m, before)
	}
}

// TestTranslateOfAGuest: tables that are sound but for one entry in each turn.
func TestTranslateOfAGuest(t *testing.T) {
	for n := range 300 {
		m, s := world(t)
		r := mixed(n)
		frames := []int{8, 9, 10, 32, 33, 34}
		put(t, m, frames[r%6], int(r>>8%16), entry(int(r>>16%256), int(r>>24%256)))
		s.C[api.Mstatus], s.C[api.Vsstatus] = r>>7, r>>11
		for page := range 34 {
			at := uint64(page)*256 + r>>32%256
			for _, kind := range kinds {
				for level := range 2 {
					check(t, "sound tables", m, s, at, kind, level, true)
				}
			}
		}
	}
}

func TestTranslateOfTheMachine(t *testing.T) {
	m, s := world(t)
	for i := range s.C {
		if i != api.Satp && i != api.Vsatp && i != api.Hgatp {
			s.C[i] = math.MaxUint64
		}
	}
	s.Level = api.User
	places := append([]uint64{0, 1, 0x212, 0x7fff, 0x8000, 0xf100, 0xffff}, beyond...)
	for _, in := range []*mem.Memory{m, mem.New(), nil} {
		for _, at := range places {
			page := 0
			if at < 65536 {
				page = int(at / 256)
			}
			for _, kind := range append(noKinds, kinds...) {
				for _, v := range []bool{false, true} {
					want := answer{lies: at, ok: true, e: api.Entry{Valid: true, V: v, Page: page, Frame: page, Guest: page, Bits: 255, Host: 255}}
					if got := translate(in, s, at, kind, api.Machine, v); got != want {
						t.Errorf("P12.4: %#x of the machine, kind %d, %v: %+v, want %+v", at, kind, v, got, want)
					}
				}
			}
		}
	}
}

// TestTranslateWithout: a supervisor and a user whose tables are off, all else being set, are led nowhere else.
func TestTranslateWithout(t *testing.T) {
	m, s := world(t)
	for i := range s.C {
		s.C[i] = math.MaxUint64
	}
	for _, level := range append([]int{api.User, api.Super}, noLevels...) {
		for _, v := range []bool{false, true} {
			o := s
			o.C[api.Satp], o.C[api.Vsatp], o.C[api.Hgatp] = math.MaxUint64>>1, math.MaxUint64>>1, math.MaxUint64>>1
			if v {
				o.C[api.Satp] |= on
			} else {
				o.C[api.Vsatp] |= on
				o.C[api.Hgatp] |= on
			}
			for _, at := range append([]uint64{0, 0x1234, 0xffff}, beyond...) {
				page := 0
				if at < 65536 {
					page = int(at / 256)
				}
				want := answer{lies: at, ok: true, e: api.Entry{Valid: true, V: v, Page: page, Frame: page, Guest: page, Bits: 255, Host: 255}}
				if got := translate(m, o, at, api.Store, level, v); got != want {
					t.Errorf("P12.4: %#x, level %d, %v: %+v, want %+v", at, level, v, got, want)
				}
			}
		}
	}
}

// TestEntryInEachMode: all fields, through low tables and great leaves at the first, at the second, at both.
func TestEntryInEachMode(t *testing.T) {
	m := mem.New()
	// The host's: its pages 0 to 15 by a low table, all that are 16 to 31 by a great leaf.
	for p := range 16 {
		laid(t, m, 8, 9, p, entry(32+p, 0xdb))
	}
	put(t, m, 8, 1, entry(0x50, 0xd3))
	// The guest's: root 0, its low table its page 1: page 0 is its page 3, page 1 is its page 0x14; two great leaves.
	put(t, m, 32, 0, entry(1, 1))
	put(t, m, 33, 0, entry(3, 0x4b))
	put(t, m, 33, 1, entry(0x14, 0x43))
	put(t, m, 32, 1, entry(0, 0xc3))
	put(t, m, 32, 15, entry(0x10, 0xc7))
	both, first, second, none := uint64(1), uint64(2), uint64(3), uint64(4)
	for i, c := range []struct {
		mode uint64
		v    bool
		at   uint64
		want answer
	}{
		{both, true, 0x0042, answer{lies: 0x2342, e: api.Entry{Page: 0, Asid: 3, Vmid: 9, Frame: 0x23, Bits: 0x4b, Host: 0xdb, Guest: 3}}},
		{both, true, 0x01ff, answer{lies: 0x54ff, e: api.Entry{Page: 1, Asid: 3, Vmid: 9, Frame: 0x54, Bits: 0x43, Host: 0xd3, Guest: 0x14}}},
		{both, true, 0x1a00, answer{lies: 0x2a00, e: api.Entry{Page: 0x1a, Asid: 3, Vmid: 9, Frame: 0x2a, Bits: 0xc3, Host: 0xdb, Guest: 0x0a}}},
		{both, true, 0xffff, answer{lies: 0x5fff, e: api.Entry{Page: 0xff, Asid: 3, Vmid: 9, Frame: 0x5f, Bits: 0xc7, Host: 0xd3, Guest: 0x1f}}},
		{first, true, 0x0342, answer{lies: 0x2342, e: api.Entry{Page: 3, Asid: 3, Frame: 0x23, Bits: 0xdb, Host: 255, Guest: 0x23}}},
		{first, true, 0x1f01, answer{lies: 0x5f01, e: api.Entry{Page: 0x1f, Asid: 3, Frame: 0x5f, Bits: 0xd3, Host: 255, Guest: 0x5f}}},
		{second, true, 0x0342, answer{lies: 0x2342, e: api.Entry{Page: 3, Vmid: 9, Frame: 0x23, Bits: 255, Host: 0xdb, Guest: 3}}},
		{second, true, 0x1f01, answer{lies: 0x5f01, e: api.Entry{Page: 0x1f, Vmid: 9, Frame: 0x5f, Bits: 255, Host: 0xd3, Guest: 0x1f}}},
		{none, true, 0xff01, answer{lies: 0xff01, e: api.Entry{Page: 0xff, Frame: 0xff, Bits: 255, Host: 255, Guest: 0xff}}},
		{first, false, 0x0342, answer{lies: 0x2342, e: api.Entry{Page: 3, Asid: 5, Frame: 0x23, Bits: 0xdb, Host: 255, Guest: 0x23}}},
		{first, false, 0x1f01, answer{lies: 0x5f01, e: api.Entry{Page: 0x1f, Asid: 5, Frame: 0x5f, Bits: 0xd3, Host: 255, Guest: 0x5f}}},
		{none, false, 0xff01, answer{lies: 0xff01, e: api.Entry{Page: 0xff, Frame: 0xff, Bits: 255, Host: 255, Guest: 0xff}}},
	} {
		var s api.State
		// The host's leaves are the user's: as a first table's they are asked by a supervisor with Sum.
		s.C[api.Mstatus], s.C[api.Vsstatus] = sum, sum
		switch {
		case c.mode == both:
			s.C[api.Vsatp], s.C[api.Hgatp] = on|3<<16, on|9<<16|8
		case c.mode == first && c.v:
			s.C[api.Vsatp], s.C[api.Hgatp] = on|3<<16|8, 9<<16|8
		case c.mode == second:
			s.C[api.Vsatp], s.C[api.Hgatp] = 3<<16, on|9<<16|8
		case c.mode == first:
			s.C[api.Satp], s.C[api.Hgatp], s.C[api.Vsatp] = on|5<<16|8, on|9<<16, on|3<<16
		}
		c.want.ok, c.want.e.Valid, c.want.e.V = true, true, c.v
		if got := translate(m, s, c.at, api.Load, api.Super, c.v); got != c.want {
			t.Errorf("P12.4: row %d: %+v, want %+v", i, got, c.want)
		}
	}
}

func TestBeyondSpace(t *testing.T) {
	m, s := world(t)
	for _, at := range beyond {
		for _, kind := range kinds {
			for level := range 2 {
				page := api.Fault{Cause: pageCauses[kind], Value: at}
				refusal(t, "a supervisor's own", translate(m, s, at, kind, level, false), page)
				page.GVA = true
				refusal(t, "both", translate(m, s, at, kind, level, true), page)
				o := s
				o.C[api.Hgatp] = 0
				refusal(t, "the first alone", translate(m, o, at, kind, level, true), page)
				o = s
				o.C[api.Vsatp] = 0
				guest := api.Fault{Cause: guestCauses[kind], Value: at, Place: at / 4, GVA: true}
				refusal(t, "the second alone", translate(m, o, at, kind, level, true), guest)
			}
		}
	}
}

// TestFaultsOfOne: of a first table alone, of a guest's and of none's, and of a second one alone.
func TestFaultsOfOne(t *testing.T) {
	m, s := world(t)
	put(t, m, 8, 2, entry(128, 1))
	put(t, m, 8, 3, entry(255, 1))
	put(t, m, 8, 4, entry(0x41, 0xdf))
	put(t, m, 8, 5, entry(0x40, 0x5))
	put(t, m, 8, 6, entry(0x40, 0x11))
	put(t, m, 9, 7, entry(0x40, 1))
	put(t, m, 9, 8, 0)
	put(t, m, 9, 9, entry(0x40, 0x1f))
	first, second := s, s
	first.C[api.Vsatp], first.C[api.Hgatp] = on|8, 0
	second.C[api.Vsatp] = 0
	for _, c := range []struct {
		what   string
		at     uint64
		access bool
	}{
		{"a low table beyond memory", 0x2001, true}, {"a low table far beyond memory", 0x3fff, true},
		{"a great leaf that begins in the midst", 0x4010, false}, {"no entry of a table", 0x5010, false},
		{"a table in the midst of memory, without entries", 0x6010, false}, {"a pointer in the low table", 0x0700, false},
		{"no entry of the low table", 0x0801, false}, {"a leaf that wasn't accessed", 0x0902, false}, {"no entry of the root", 0xffff, false},
	} {
		for _, kind := range kinds {
			for level := range 2 {
				f := api.Fault{Cause: pageCauses[kind], Value: c.at}
				g := api.Fault{Cause: guestCauses[kind], Value: c.at, GVA: true, Place: c.at / 4}
				if c.access {
					f.Cause, g.Cause, g.Place = accessCauses[kind], accessCauses[kind], 0
				}
				refusal(t, c.what+", a supervisor's own", translate(m, s, c.at, kind, level, false), f)
				refusal(t, c.what+", the second alone", translate(m, second, c.at, kind, level, true), g)
				f.GVA = true
				refusal(t, c.what+", the first alone", translate(m, first, c.at, kind, level, true), f)
			}
		}
	}
	for _, root := range []uint64{128, 129, 255} {
		o := s
		o.C[api.Satp], o.C[api.Hgatp] = on|root, on|root
		for _, kind := range kinds {
			refusal(t, "a root beyond memory", translate(m, o, 0x345, kind, 1, false), api.Fault{Cause: accessCauses[kind], Value: 0x345})
			refusal(t, "a host's root beyond memory", translate(m, o, 0x345, kind, 1, true), api.Fault{Cause: accessCauses[kind], Value: 0x345, GVA: true})
		}
	}
}

// TestFaultsOfBoth: at each of the three places that a walk through both comes to.
func TestFaultsOfBoth(t *testing.T) {
	const at = 0x1234
	page, guest, access := pageCauses, guestCauses, accessCauses
	for _, c := range []struct {
		what   string
		change func(m *mem.Memory, s *api.State)
		causes [3]uint64
		place  uint64
	}{
		{"the root's page without an entry", func(m *mem.Memory, s *api.State) { put(t, m, 9, 0, 0) }, guest, 0x0008},
		{"the root's page may not be read", func(m *mem.Memory, s *api.State) { put(t, m, 9, 0, entry(32, 0x59)) }, guest, 0x0008},
		{"the root's page isn't a guest's", func(m *mem.Memory, s *api.State) { put(t, m, 9, 0, entry(32, 0xcf)) }, guest, 0x0008},
		{"the root elsewhere, beyond the host's", func(m *mem.Memory, s *api.State) { s.C[api.Vsatp] = on | 255 }, guest, 0xff08},
		{"the root's page beyond memory", func(m *mem.Memory, s *api.State) { put(t, m, 9, 0, entry(128, 0xdf)) }, access, 0},
		{"the root's page at the end of places", func(m *mem.Memory, s *api.State) { put(t, m, 9, 0, entry(255, 0xdf)) }, access, 0},
		{"the host's table for all beyond memory", func(m *mem.Memory, s *api.State) { put(t, m, 8, 0, entry(128, 1)) }, access, 0},
		{"the host's root beyond memory", func(m *mem.Memory, s *api.State) { s.C[api.Hgatp] = on | 9<<16 | 128 }, access, 0},
		{"no entry of the root", func(m *mem.Memory, s *api.State) { put(t, m, 32, 1, 0) }, page, 0},
		{"a great leaf that begins in the midst", func(m *mem.Memory, s *api.State) { put(t, m, 32, 1, entry(0x11, 0xcf)) }, page, 0},
		{"the low table's page without an entry", func(m *mem.Memory, s *api.State) { put(t, m, 9, 2, 0) }, guest, 0x0210},
		{"the low table's page may not be read", func(m *mem.Memory, s *api.State) { put(t, m, 9, 2, entry(34, 0x59)) }, guest, 0x0210},
		{"the low table elsewhere, beyond the host's", func(m *mem.Memory, s *api.State) { put(t, m, 32, 1, entry(0x40, 1)) }, guest, 0x4010},
		{"the low table's page beyond memory", func(m *mem.Memory, s *api.State) { put(t, m, 9, 2, entry(128, 0xdf)) }, access, 0},
		{"the low table by a host's table beyond memory", func(m *mem.Memory, s *api.State) {
			put(t, m, 32, 1, entry(0x40, 1))
			put(t, m, 8, 4, entry(200, 1))
		}, access, 0},
		{"no entry of the low table", func(m *mem.Memory, s *api.State) { put(t, m, 34, 2, 0) }, page, 0},
		{"a pointer in the low table", func(m *mem.Memory, s *api.State) { put(t, m, 34, 2, entry(2, 1)) }, page, 0},
		{"a leaf that may not", func(m *mem.Memory, s *api.State) { put(t, m, 34, 2, entry(18, 0x8f)) }, page, 0},
		{"a leaf to pages without an entry", func(m *mem.Memory, s *api.State) { put(t, m, 34, 2, entry(0xff, 0xcf)) }, guest, 0xff34},
		{"a leaf to a page that may not", func(m *mem.Memory, s *api.State) {
			put(t, m, 34, 2, entry(18, 0xcf))
			put(t, m, 10, 2, entry(50, 0xcf))
		}, guest, 0x1234},
		{"neither of both may", func(m *mem.Memory, s *api.State) {
			put(t, m, 34, 2, entry(18, 0x8f))
			put(t, m, 10, 2, entry(50, 0x9f))
		}, page, 0},
		{"a leaf to a page by a host's table beyond memory", func(m *mem.Memory, s *api.State) {
			put(t, m, 34, 2, entry(0x71, 0xcf))
			put(t, m, 8, 7, entry(200, 1))
		}, access, 0},
		{"a leaf that may not to a page by a host's table beyond memory", func(m *mem.Memory, s *api.State) {
			put(t, m, 34, 2, entry(0x71, 0x8f))
			put(t, m, 8, 7, entry(200, 1))
		}, page, 0},
		{"a great leaf to pages without an entry", func(m *mem.Memory, s *api.State) { put(t, m, 32, 1, entry(0xf0, 0xcf)) }, guest, 0xf234},
	} {
		m, s := world(t)
		s.C[api.Vsstatus] = sum // so that the user's leaves of page 16 on may be loaded from
		c.change(m, &s)
		before := m.Copy()
		for _, kind := range kinds {
			f := api.Fault{Cause: c.causes[kind], Value: at, Place: c.place / 4, GVA: true}
			refusal(t, c.what, translate(m, s, at, kind, api.Super, true), f)
		}
		for _, kind := range noKinds {
			check(t, c.what, m, s, at, kind, api.Super, true)
		}
		mustBeSame(t, c.what, m, before)
	}
}

// TestTablesAreReadByLoad: a guest's tables must be readable, whatever they are read for, and needn't be more.
func TestTablesAreReadByLoad(t *testing.T) {
	for _, bits := range []int{0x53, 0xd7, 0xdb, 0x5f} {
		m, s := world(t)
		put(t, m, 9, 0, entry(32, bits))
		put(t, m, 9, 1, entry(33, bits))
		for _, kind := range kinds {
			if got := translate(m, s, 0x0512, kind, api.Super, true); got.lies != 37*256+0x12 || !got.ok {
				t.Errorf("P12.3: tables' pages of bits %#x, kind %d: %+v", bits, kind, got)
			}
		}
	}
}

// TestMxrIsTheFirstTables: what runs isn't read behind it, nor are tables.
func TestMxrIsTheFirstTables(t *testing.T) {
	m, s := world(t)
	put(t, m, 33, 5, entry(5, 0x49))
	s.C[api.Mstatus], s.C[api.Vsstatus] = mxr, mxr
	if got := translate(m, s, 0x512, api.Load, api.Super, true); got.lies != 37*256+0x12 || !got.ok {
		t.Errorf("P12.3: a leaf to run, with Mxr: %+v", got)
	}
	put(t, m, 9, 5, entry(37, 0x59))
	refusal(t, "a host's leaf to run, with Mxr", translate(m, s, 0x512, api.Load, api.Super, true), api.Fault{Cause: api.GuestLoad, Value: 0x512, Place: 0x512 / 4, GVA: true})
	if got := translate(m, s, 0x512, api.Fetch, api.Super, true); got.lies != 37*256+0x12 || !got.ok {
		t.Errorf("P12.3: leaves to run: %+v", got)
	}
}

// TestTheHostIsAskedAsAUser, whoever in the guest asks, with Sum or without.
func TestTheHostIsAskedAsAUser(t *testing.T) {
	for _, sums := range []uint64{0, sum} {
		m, s := world(t)
		s.C[api.Mstatus], s.C[api.Vsstatus], s.C[api.Vsatp] = sums, sums, 0
		put(t, m, 9, 5, entry(37, 0xcf))
		for level := range 2 {
			refusal(t, "not the user's", translate(m, s, 0x512, api.Load, level, true), api.Fault{Cause: api.GuestLoad, Value: 0x512, Place: 0x512 / 4, GVA: true})
			if got := translate(m, s, 0x612, api.Fetch, level, true); got.lies != 38*256+0x12 || !got.ok {
				t.Errorf("P12.3: the user's, level %d: %+v", level, got)
			}
		}
	}
}

func TestLevelsThatAreNone(t *testing.T) {
	m, s := world(t)
	for _, level := range noLevels {
		for _, kind := range kinds {
			for _, at := range []uint64{0x0512, 0x1512} {
				for _, v := range []bool{false, true} {
					if got, want := translate(m, s, at, kind, level, v), translate(m, s, at, kind, api.Super, v); got != want {
						t.Errorf("P12.3: level %d, kind %d, %#x, %v: %+v, want %+v", level, kind, at, v, got, want)
					}
				}
				e := translate(m, s, 0x0512, api.Load, api.Super, true).e
				f, ok := two.Allowed(s, e, at, kind, level, true)
				g, may := two.Allowed(s, e, at, kind, api.Super, true)
				if f != g || ok != may {
					t.Errorf("P12.4: level %d, kind %d: %+v, %v, want %+v, %v", level, kind, f, ok, g, may)
				}
			}
		}
	}
}

// TestAllowedIsTranslate: an entry that one access leaves tells others of its page what a translation would.
func TestAllowedIsTranslate(t *testing.T) {
	bits := []int{0xcf, 0xdf, 0x4b, 0x5b, 0xc7, 0xd7, 0x43, 0x53, 0x49, 0x59, 0xc9, 0xd9}
	for _, first := range bits {
		for _, host := range bits {
			m, s := world(t)
			put(t, m, 33, 5, entry(7, first))
			put(t, m, 9, 7, entry(39, host))
			for mode := range 4 {
				s.C[api.Vsatp], s.C[api.Hgatp] = on|3<<16, on|9<<16|8
				if mode&1 != 0 {
					s.C[api.Vsatp] = 0
				}
				if mode&2 != 0 {
					s.C[api.Hgatp], s.C[api.Vsatp] = 0, s.C[api.Vsatp]&on|8
				}
				allowedAsTranslated(t, m, s, 0x512, true)
				allowedAsTranslated(t, m, s, 0x712, true)
				allowedAsTranslated(t, m, s, 0x712, false)
			}
		}
	}
}

func allowedAsTranslated(t *testing.T, m *mem.Memory, s api.State, at uint64, v bool) {
	t.Helper()
	for n := range 2 * 3 * 4 {
		filling := s
		filling.C[api.Vsstatus] = uint64(n%4) << 18
		filling.C[api.Mstatus] = uint64(n%4) << 18
		e := translate(m, filling, at, n/4%3, n/12, v)
		if !e.ok {
			continue
		}
		for k := range 2 * 3 * 8 {
			asking := s
			asking.C[api.Vsstatus] = uint64(k%4) << 18
			asking.C[api.Mstatus] = uint64(k%8/4) << 19
			kind, level, other := k/8%3, k/24, at^0xff
			f, ok := two.Allowed(asking, e.e, other, kind, level, v)
			want := translate(m, asking, other, kind, level, v)
			if f != want.f || ok != want.ok {
				t.Fatalf("P12.4: %+v, kind %d, level %d, %v: %+v, %v, want %+v, %v", e.e, kind, level, v, f, ok, want.f, want.ok)
			}
		}
	}
}

// TestAllowedOfAllBits: of the first, then of the second, for all kinds and levels.
func TestAllowedOfAllBits(t *testing.T) {
	for bits := range 256 {
		for n := range 5 * 5 * 8 {
			var s api.State
			s.C[api.Vsstatus], s.C[api.Mstatus] = uint64(n%4)<<18, uint64(n/2%4)<<18
			kind, level := n/8%5-1, n/40-1
			for _, v := range []bool{false, true} {
				for _, e := range []api.Entry{{Bits: bits, Host: 255, Guest: 7}, {Bits: 255, Host: bits, Guest: 0x91}, {Bits: bits, Host: 0xd9, Guest: 0xff}, {Bits: 0xcf, Host: bits}} {
					f, ok := two.Allowed(s, e, 0x123456789abcdef1, kind, level, v)
					want, may := modelAllowed(s, e, 0x123456789abcdef1, kind, level, v)
					if f != want || ok != may {
						t.Fatalf("P12.4: %+v, kind %d, level %d, %v: %+v, %v, want %+v, %v", e, kind, level, v, f, ok, want, may)
					}
				}
			}
		}
	}
}

// TestAllowedWithoutTables: 255 lets whatever comes, a kind that is none, too, as a translation without tables does.
func TestAllowedWithoutTables(t *testing.T) {
	var s api.State
	for _, kind := range append(noKinds, kinds...) {
		for _, level := range append([]int{0, 1, 3}, noLevels...) {
			for _, e := range []api.Entry{{Bits: 255, Host: 255}, {Bits: 255, Host: 255, Valid: true, V: true, Page: 9, Frame: 8, Guest: 7, Asid: 6, Vmid: 5}} {
				for _, at := range append([]uint64{0, 0x912}, beyond...) {
					if f, ok := two.Allowed(s, e, at, kind, level, true); f != (api.Fault{}) || !ok {
						t.Errorf("P12.4: kind %d, level %d: %+v, %v", kind, level, f, ok)
					}
				}
			}
		}
	}
}

// TestAllowedAsksBitsAlone: neither whose entry it is, nor where it leads, nor whether it is valid.
func TestAllowedAsksBitsAlone(t *testing.T) {
	var s api.State
	far := []int{math.MinInt, -1 << 32, -257, -1, 0, 5, 255, 256, 1 << 32, math.MaxInt}
	for _, n := range far {
		for _, v := range []bool{false, true} {
			e := api.Entry{V: !v, Page: n, Asid: n, Vmid: n, Frame: n, Guest: 0x11, Bits: 0xcf, Host: 0xdf}
			if f, ok := two.Allowed(s, e, 0x1012345, api.Load, api.Super, v); f != (api.Fault{}) || !ok {
				t.Errorf("P12.4: %+v: %+v, %v", e, f, ok)
			}
			e.Bits = 0xdf
			if f, ok := two.Allowed(s, e, 0x1012345, api.Load, api.Super, v); f != (api.Fault{Cause: api.PageLoad, Value: 0x1012345, GVA: v}) || ok {
				t.Errorf("P12.4: %+v: %+v, %v", e, f, ok)
			}
			e.Bits, e.Host = 255, 0xd9
			if f, ok := two.Allowed(s, e, 0x1012345, api.Store, api.Super, v); f != (api.Fault{Cause: api.GuestStore, Value: 0x1012345, GVA: v, Place: 0x1145 / 4}) || ok {
				t.Errorf("P12.4: %+v: %+v, %v", e, f, ok)
			}
			e.Guest = n
			want := api.Fault{Cause: api.GuestFetch, Value: 0xfff, GVA: v, Place: (uint64(n)*256 + 0xff) / 4}
			e.Host = 0x43
			if f, ok := two.Allowed(s, e, 0xfff, api.Fetch, api.User, v); f != want || ok {
				t.Errorf("P12.4: %+v: %+v, %v, want %+v", e, f, ok, want)
			}
		}
	}
}

// TestAllowedOfBitsThatAreNone: only 255 itself stands for no table; others are pte's May's.
func TestAllowedOfBitsThatAreNone(t *testing.T) {
	var s api.State
	for _, bits := range []int{math.MinInt, math.MinInt + 0x5f, -1, -256, -257, 256, 511, 512 + 0xcf, 1<<32 + 255, 1<<40 + 0xdf, math.MaxInt} {
		for _, kind := range append(noKinds, kinds...) {
			for level := -1; level <= 3; level++ {
				for _, e := range []api.Entry{{Bits: bits, Host: 255}, {Bits: 255, Host: bits, Guest: 3}} {
					f, ok := two.Allowed(s, e, 0x77, kind, level, true)
					want, may := modelAllowed(s, e, 0x77, kind, level, true)
					if f != want || ok != may {
						t.Errorf("P12.4: %+v, kind %d, level %d: %+v, %v, want %+v, %v", e, kind, level, f, ok, want, may)
					}
				}
			}
		}
	}
}

func TestNoMemory(t *testing.T) {
	_, s := world(t)
	first, second, astray := s, s, s
	first.C[api.Hgatp], second.C[api.Vsatp] = 0, 0
	astray.C[api.Hgatp], astray.C[api.Satp] = on|128, on|255
	for _, kind := range kinds {
		for _, at := range []uint64{0, 0x512, 0xffff} {
			for _, v := range []bool{false, true} {
				refusal(t, "no memory, the first alone", translate(nil, first, at, kind, 1, v), api.Fault{Cause: pageCauses[kind], Value: at, GVA: v})
				refusal(t, "no memory, no root", translate(nil, astray, at, kind, 1, v), api.Fault{Cause: accessCauses[kind], Value: at, GVA: v})
			}
			refusal(t, "no memory, the second alone", translate(nil, second, at, kind, 1, true), api.Fault{Cause: guestCauses[kind], Value: at, GVA: true, Place: at / 4})
			refusal(t, "no memory, both", translate(nil, s, at, kind, 1, true), api.Fault{Cause: guestCauses[kind], Value: at, GVA: true, Place: at / 4096 * 8 / 4})
			for code, o := range map[int]api.State{1: second, 2: astray} {
				if lies, got := two.Guest(nil, o, at, kind); lies != 0 || got != code {
					t.Errorf("P12.2: no memory: %#x, %d, want 0, %d", lies, got, code)
				}
			}
		}
	}
}

// TestGuestsAreApart: whatever a guest writes into its own tables, it comes to no frame but those that its host gave it.
func TestGuestsAreApart(t *testing.T) {
	for n := range 30 {
		m := mem.New()
		given := [2]map[int]bool{{}, {}}
		for g := range given {
			for p := range 16 {
				frame := 32 + 2*p + g
				laid(t, m, 8+2*g, 9+2*g, p, entry(frame, 0xdf))
				given[g][frame] = true
				for index := range 32 {
					r := mixed(n*4096 + frame*32 + index)
					e := entry(int(r%20), []int{1, 0xcf, 0xdf, 0xc7}[r>>8%4])
					put(t, m, frame, index, e)
				}
			}
		}
		reached := [2]int{}
		for g := range given {
			reached[g] = reach(t, m, g, given[g])
		}
		if reached[0] == 0 || reached[1] == 0 {
			t.Errorf("P12.5: memory %d: nothing was reached: %v", n, reached)
		}
	}
}

func reach(t *testing.T, m *mem.Memory, g int, given map[int]bool) int {
	t.Helper()
	reached := 0
	for n := range 257 * 20 * 2 {
		var s api.State
		s.C[api.Hgatp] = on | uint64(g+1)<<16 | uint64(8+2*g)
		s.C[api.Vsstatus] = mixed(n)
		s.C[api.Vsatp] = uint64(n%20) | uint64(n/20%2)<<63
		at := uint64(n / 40 * 256)
		got := translate(m, s, at, n%3, n/3%2, true)
		if !got.ok {
			continue
		}
		reached++
		if !given[got.e.Frame] || !given[int(got.lies/256)] {
			t.Fatalf("P12.5: guest %d comes to %#x by %#x (%+v)", g, got.lies, at, got.e)
		}
	}
	return reached
}

// TestNothingIsKept: an answer hangs on the arguments alone.
func TestNothingIsKept(t *testing.T) {
	m, s := world(t)
	was := translate(m, s, 0x512, api.Load, 1, true)
	put(t, m, 33, 5, entry(6, 0xcf))
	if got := translate(m, s, 0x512, api.Load, 1, true); got.lies != 38*256+0x12 || got.e.Guest != 6 {
		t.Errorf("P12.3: a table that was changed: %+v", got)
	}
	put(t, m, 33, 5, entry(5, 0xcf))
	if got := translate(m, s, 0x512, api.Load, 1, true); got != was {
		t.Errorf("P12.3: a table as it was: %+v, want %+v", got, was)
	}
}
