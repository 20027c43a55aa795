package walk_test

import (
	"math"
	"testing"

	"sallyport/api"
	"sallyport/mem"
	"sallyport/pte"
	"sallyport/walk"
)

// What Walk tells beside an entry.
const (
	found = iota
	nothing
	noTable
)

// noFrames: beside those at memory's ends, such as would be memory's if only some of their bits counted, or if their place wrapped round.
var noFrames = []int{
	math.MinInt, math.MinInt + 1, math.MinInt32, -1 << 32, -257, -256, -129, -128, -127, -2, -1,
	128, 129, 255, 256, 257, 1 << 16, 1<<31 + 1, 1 << 32, 1<<32 + 1, 1 << 55, 1 << 56, 1<<56 + 1, 1<<60 + 2, math.MaxInt - 1, math.MaxInt,
}

var noIndexes = []int{
	math.MinInt, math.MinInt + 1, -1 << 32, -17, -16, -15, -2, -1,
	16, 17, 31, 32, 256, 257, 1 << 32, 1<<32 + 1, 1 << 61, 1<<61 + 1, math.MaxInt - 1, math.MaxInt,
}

// put writes an entry without asking package walk.
func put(t *testing.T, m *mem.Memory, frame, index int, e uint64) {
	t.Helper()
	if f := m.Write(uint64(256*frame+8*index), 8, e); f != api.OK {
		t.Fatalf("entry %d of frame %d: %v", index, frame, f)
	}
}

// mixed: numbers that differ in all their bytes, by a rule.
func mixed(n int) uint64 {
	v := uint64(n+1) * 0x9e3779b97f4a7c15
	return v ^ v>>29
}

// full: a memory of which no eight bytes are noughts, nor as any others.
func full(t *testing.T) *mem.Memory {
	t.Helper()
	m := mem.New()
	for i := range api.MemSize / 8 {
		put(t, m, 0, i, mixed(i))
	}
	return m
}

func mustBeSame(t *testing.T, what string, m, want *mem.Memory) {
	t.Helper()
	if !m.Same(want) {
		t.Errorf("%s: memory isn't what it must be", what)
	}
}

func checkEntry(t *testing.T, m *mem.Memory, frame, index int, want uint64, ok bool) {
	t.Helper()
	if e, there := walk.Entry(m, frame, index); e != want || there != ok {
		t.Errorf("P11.1: Entry(%d, %d) = %#x, %v, want %#x, %v", frame, index, e, there, want, ok)
	}
}

func checkWalk(t *testing.T, m *mem.Memory, root int, at, want uint64, code int) {
	t.Helper()
	if e, got := walk.Walk(m, root, at); e != want || got != code {
		t.Errorf("P11.1: Walk(%d, %#x) = %#x, %d, want %#x, %d", root, at, e, got, want, code)
	}
}

func TestEntryOfEachFrame(t *testing.T) {
	m := full(t)
	for frame := range api.Frames {
		for index := range 16 {
			checkEntry(t, m, frame, index, mixed(32*frame+index), true)
		}
		for _, index := range noIndexes {
			checkEntry(t, m, frame, index, 0, false)
		}
	}
	mustBeSame(t, "P11.1: after Entry", m, full(t))
}

func TestEntryOfNoFrame(t *testing.T) {
	m := full(t)
	for _, frame := range noFrames {
		for index := range 16 {
			checkEntry(t, m, frame, index, 0, false)
		}
		for _, index := range noIndexes {
			checkEntry(t, m, frame, index, 0, false)
		}
	}
}

func TestEntryOfNoMemory(t *testing.T) {
	for frame := range api.Frames {
		for index := range 16 {
			checkEntry(t, nil, frame, index, 0, true)
		}
		checkEntry(t, nil, frame, -1, 0, false)
		checkEntry(t, nil, frame, 16, 0, false)
	}
	for _, frame := range noFrames {
		checkEntry(t, nil, frame, 0, 0, false)
		checkEntry(t, nil, frame, 15, 0, false)
	}
}

func TestEntryIsOfMemoryAsItIs(t *testing.T) {
	m := mem.New()
	for _, e := range []uint64{0, 1, 0x3cf, 0x8000000000000000, math.MaxUint64, 0x0102030405060708, 0} {
		put(t, m, 127, 15, e)
		checkEntry(t, m, 127, 15, e, true)
		checkEntry(t, m, 127, 14, 0, true)
	}
}

func TestWalkOfNoMemory(t *testing.T) {
	for root := range api.Frames {
		for _, at := range []uint64{0, 1, 0x512, 0x8000, 0xffff, 0x10000, math.MaxUint64} {
			checkWalk(t, nil, root, at, 0, nothing)
		}
	}
	for _, root := range noFrames {
		checkWalk(t, nil, root, 0, 0, noTable)
		checkWalk(t, nil, root, 0xffff, 0, noTable)
		checkWalk(t, nil, root, 0x10000, 0, nothing)
	}
}

func TestWalkOfNoRoot(t *testing.T) {
	m := full(t)
	for frame := range api.Frames {
		put(t, m, frame, 0, 0x20cf)
	}
	for _, root := range noFrames {
		for _, at := range []uint64{0, 0xff, 0x512, 0xfff, 0x1000, 0xffff} {
			checkWalk(t, m, root, at, 0, noTable)
		}
		for _, at := range []uint64{0x10000, 0x10001, 0x1ffff, 1 << 32, 1 << 63, math.MaxUint64} {
			checkWalk(t, m, root, at, 0, nothing)
		}
	}
}

// TestWalkAtEnds: wherever the lowest sixteen bits of a place lead to a leaf.
func TestWalkAtEnds(t *testing.T) {
	m := mem.New()
	put(t, m, 1, 0, 0x201)
	put(t, m, 1, 15, 0x201)
	put(t, m, 2, 0, 0x4dcf)
	put(t, m, 2, 15, 0x4ecf)
	for _, at := range []uint64{0, 1, 7, 8, 0x80, 0xff, 0xf000, 0xf0ff} {
		checkWalk(t, m, 1, at, 0x4dcf, found)
	}
	for _, at := range []uint64{0xf00, 0xf01, 0xfff, 0xff00, 0xff01, 0xfffe, 0xffff} {
		checkWalk(t, m, 1, at, 0x4ecf, found)
	}
	for bit := 16; bit < 64; bit++ {
		for _, low := range []uint64{0, 0xf00, 0xf0ff, 0xffff} {
			checkWalk(t, m, 1, 1<<bit+low, 0, nothing)
		}
	}
	for _, at := range []uint64{0x10000, 0x10001, 0x100ff, 0x1ffff, 0x20000, math.MaxUint32, math.MaxUint64 - 0xffff, math.MaxUint64} {
		checkWalk(t, m, 1, at, 0, nothing)
	}
}

// noEntries: such as one thing alone keeps from being an entry, with that frame in bits 8 to 15.
func noEntries(frame uint64) []uint64 {
	var out []uint64
	for _, bits := range []uint64{
		0, 2, 4, 6, 8, 10, 14, 0x40, 0x80, 0xc0, 0xca, 0xce, 0xde, // not V
		5, 0xd, 0x15, 0x45, 0xc5, 0xcd, 0xd5, 0xdd, // W without R
		0x21, 0x23, 0x27, 0x29, 0x2b, 0x2f, 0x31, 0xe1, 0xef, 0xff, // bit 5
	} {
		out = append(out, frame*256+bits)
	}
	for bit := 16; bit < 64; bit++ {
		out = append(out, 1<<bit+frame*256+1, 1<<bit+frame*256+0xcf)
	}
	return append(out, 0, math.MaxUint64, math.MaxUint64-0xffff+frame*256+0xcf)
}

// TestWalkThroughNone: where the one of the first step would lead to a leaf in frame 2 and the one of the second would be one.
func TestWalkThroughNone(t *testing.T) {
	for _, e := range append(noEntries(2), noEntries(32)...) {
		m := mem.New()
		put(t, m, 1, 3, e)
		put(t, m, 1, 4, 0x201)
		put(t, m, 2, 7, e)
		put(t, m, 2, 8, 0x4dcf)
		put(t, m, 32, 8, 0x4dcf)
		for page := range uint64(16) {
			checkWalk(t, m, 1, 0x3000+256*page, 0, nothing)
		}
		checkWalk(t, m, 1, 0x4700, 0, nothing)
		checkWalk(t, m, 1, 0x4800, 0x4dcf, found)
	}
}

// leafBits: all lowest eight bits that a leaf may have.
func leafBits() []uint64 {
	var out []uint64
	for bits := range uint64(256) {
		v, r, w, x, five := bits&1 != 0, bits&2 != 0, bits&4 != 0, bits&8 != 0, bits&32 != 0
		if v && !five && (r || x && !w) {
			out = append(out, bits)
		}
	}
	return out
}

func TestLeafBits(t *testing.T) {
	if n := len(leafBits()); n != 40 {
		t.Fatalf("%d sets of bits, want 40: RWX of five kinds, U, A, D", n)
	}
}

func TestWalkToEachLeaf(t *testing.T) {
	m := mem.New()
	put(t, m, 1, 6, 0x201)
	for _, bits := range leafBits() {
		for frame := range uint64(256) {
			e := 256*frame + bits
			put(t, m, 2, 11, e)
			checkWalk(t, m, 1, 0x6b00+frame, e, found)
		}
	}
}

// TestWalkToGreatLeaf: at the first step a leaf stands for sixteen pages, if its frame is a multiple of sixteen.
func TestWalkToGreatLeaf(t *testing.T) {
	m := full(t)
	for _, bits := range leafBits() {
		for frame := range uint64(256) {
			put(t, m, 1, 9, 256*frame+bits)
			for page := range uint64(16) {
				want, code := uint64(0), nothing
				if frame%16 == 0 {
					want, code = 256*(frame+page)+bits, found
				}
				checkWalk(t, m, 1, 0x9000+256*page+frame, want, code)
			}
		}
	}
}

// pointerBits: V, and U, A, D of which a table's place says nothing.
var pointerBits = []uint64{1, 0x11, 0x41, 0x51, 0x81, 0x91, 0xc1, 0xd1}

func TestWalkThroughPointer(t *testing.T) {
	m := full(t)
	for frame := range api.Frames {
		for index := range 16 {
			put(t, m, frame, index, uint64(256*(frame^index)+0xcf))
		}
	}
	for _, bits := range pointerBits {
		for frame := range api.Frames {
			put(t, m, 1, 10, uint64(256*frame)+bits)
			for page := range 16 {
				want, code := uint64(256*(frame^page)+0xcf), found
				if frame == 1 && page == 10 { // the pointer itself, at the second step
					want, code = 0, nothing
				}
				checkWalk(t, m, 1, uint64(0xa000+256*page+page), want, code)
			}
		}
	}
}

func TestWalkThroughPointerOutOfMemory(t *testing.T) {
	m := full(t)
	for frame := range api.Frames {
		put(t, m, frame, 0, 0x4dcf)
		put(t, m, frame, 15, 0x4dcf)
	}
	for _, bits := range pointerBits {
		for frame := uint64(128); frame < 256; frame++ {
			put(t, m, 1, 13, 256*frame+bits)
			for page := range uint64(16) {
				checkWalk(t, m, 1, 0xd000+256*page, 0, noTable)
			}
		}
		put(t, m, 1, 13, 0x7f00+bits)
		checkWalk(t, m, 1, 0xd000, 0x4dcf, found)
		checkWalk(t, m, 1, 0xdfff, 0x4dcf, found)
	}
}

// TestWalkThroughPointerAtSecondStep: wherever it leads: to itself, to leaves, to no memory.
func TestWalkThroughPointerAtSecondStep(t *testing.T) {
	m := mem.New()
	put(t, m, 1, 5, 0x201)
	for index := range 16 {
		put(t, m, 3, index, 0x20cf)
	}
	for _, bits := range pointerBits {
		for frame := range uint64(256) {
			put(t, m, 2, 4, 256*frame+bits)
			checkWalk(t, m, 1, 0x5400, 0, nothing)
			checkWalk(t, m, 1, 0x54ff, 0, nothing)
		}
	}
}

// modelEntry reads a frame's text, without asking package walk.
func modelEntry(m *mem.Memory, frame, index int) (uint64, bool) {
	if frame < 0 || frame > 127 {
		return 0, false
	}
	v, text := uint64(0), m.Frame(frame)
	for i := 7; i >= 0; i-- {
		v = v*256 + uint64(text[8*index+i])
	}
	return v, true
}

func modelIs(e uint64) bool {
	return e%2 == 1 && (e/4%2 == 0 || e/2%2 == 1) && e/32%2 == 0 && e < 65536
}

func modelLeaf(e uint64) bool { return modelIs(e) && (e/2%2 == 1 || e/8%2 == 1) }

// modelWalk: sentence by sentence as the chapter has it.
func modelWalk(m *mem.Memory, root int, at uint64) (uint64, int) {
	if at >= 65536 {
		return 0, nothing
	}
	high, low := int(at/4096), int(at/256%16)
	e, there := modelEntry(m, root, high)
	if !there {
		return 0, noTable
	}
	if !modelIs(e) {
		return 0, nothing
	}
	frame := e / 256
	if modelLeaf(e) {
		if frame%16 != 0 {
			return 0, nothing
		}
		return 256*(frame+uint64(low)) + e%256, found
	}
	e, there = modelEntry(m, int(frame), low)
	if !there {
		return 0, noTable
	}
	if !modelLeaf(e) {
		return 0, nothing
	}
	return e, found
}

// ofTables: a memory full of tables whose entries are of all kinds, by a rule.
func ofTables(t *testing.T) *mem.Memory {
	t.Helper()
	m := mem.New()
	for i := range api.MemSize / 8 {
		v := mixed(i)
		e := v >> 40 & 0xff00
		switch v >> 60 {
		case 0, 1, 2, 3, 4, 5:
			e |= 1
		case 6, 7, 8:
			e |= 0xcf
		case 9:
			e = e&0xf000 | 0xdb
		case 10:
			e |= 0x49
		case 11:
			e |= v >> 32 & 0xff
		case 12:
			e |= 1<<(16+v>>32%48) | 0xcf
		case 13:
			e |= 0xd1
		case 14:
			e |= 0xcd
		}
		put(t, m, 0, i, e)
	}
	return m
}

func TestWalkAsModel(t *testing.T) {
	m := ofTables(t)
	var told [3]int
	for root := -1; root <= api.Frames; root++ {
		for page := range uint64(257) {
			at := 256*page + uint64(root+1)%256
			want, code := modelWalk(m, root, at)
			checkWalk(t, m, root, at, want, code)
			told[code]++
		}
	}
	for code, n := range told {
		if n < 1000 {
			t.Errorf("only %d walks come to %d", n, code)
		}
	}
	mustBeSame(t, "P11.1: after Walk", m, ofTables(t))
}

func TestWalkOfEachPlace(t *testing.T) {
	m := ofTables(t)
	for _, root := range []int{0, 77, 127} {
		for page := range uint64(256) {
			want, code := modelWalk(m, root, 256*page)
			for low := range uint64(256) {
				checkWalk(t, m, root, 256*page+low, want, code)
			}
		}
	}
}

// laid: what m should be after a Lay: the low table's entry first, then root's.
func laid(t *testing.T, m *mem.Memory, root, low, held int, e uint64) *mem.Memory {
	t.Helper()
	o := m.Copy()
	put(t, o, low, held%16, e)
	put(t, o, root, held/16, uint64(256*low+1))
	return o
}

func checkLay(t *testing.T, m *mem.Memory, root, low, page, held int, e uint64) {
	t.Helper()
	want := laid(t, m, root, low, held, e)
	if f := walk.Lay(m, root, low, page, e); f != api.OK {
		t.Errorf("P11.2: Lay(%d, %d, %d, %#x) = %v", root, low, page, e, f)
	}
	if !m.Same(want) {
		t.Errorf("P11.2: after Lay(%d, %d, %d, %#x) memory isn't what it must be", root, low, page, e)
	}
}

func TestExample(t *testing.T) {
	m := mem.New()
	if f := walk.Lay(m, 1, 2, 5, 0x3cf); f != api.OK {
		t.Errorf("P11.2: Lay(1, 2, 5, 0x3cf) = %v", f)
	}
	checkWalk(t, m, 1, 0x512, 0x3cf, found)
	checkEntry(t, m, 1, 0, 0x201, true)
	checkEntry(t, m, 2, 5, 0x3cf, true)
}

// TestLayEachPage: in a memory without noughts, so that whatever else is written shows.
func TestLayEachPage(t *testing.T) {
	m := full(t)
	for page := range 256 {
		checkLay(t, m, 1, 2, page, page, uint64(256*page+0xcf))
		checkLay(t, m, 127, 0, page, page, uint64(256*(255-page)+0xc9))
		checkLay(t, m, 0, 127, page, page, mixed(page))
	}
}

func TestLayHoldsPage(t *testing.T) {
	m := full(t)
	for i, page := range []int{-1, -2, -15, -16, -17, -255, -256, -257, -1 << 32, math.MinInt32, math.MinInt + 1, math.MinInt} {
		checkLay(t, m, 1, 2, page, 0, mixed(i))
	}
	for i, page := range []int{256, 257, 271, 272, 511, 512, 65535, 65536, 1 << 32, 1<<32 + 5, math.MaxInt32, math.MaxInt - 1, math.MaxInt} {
		checkLay(t, m, 1, 2, page, 255, mixed(i))
	}
}

func TestLayAnyEntry(t *testing.T) {
	m := full(t)
	for _, e := range append(noEntries(32), 1, 0x201, 0xff01, 0x4dcf, 0x20cb, 0x21cb, 1<<63, math.MaxUint64) {
		checkLay(t, m, 1, 2, 0x4d, 0x4d, e)
		if modelLeaf(e) {
			checkWalk(t, m, 1, 0x4d00, e, found)
		} else {
			checkWalk(t, m, 1, 0x4d00, 0, nothing)
		}
	}
}

func TestLayEachFrame(t *testing.T) {
	m := full(t)
	for frame := range api.Frames {
		checkLay(t, m, frame, 127-frame, 0xa5, 0xa5, uint64(256*frame+0xc3))
		checkWalk(t, m, frame, 0xa5ff, uint64(256*frame+0xc3), found)
	}
}

// TestLayInOneTable: where both entries are one, the pointer stands.
func TestLayInOneTable(t *testing.T) {
	for _, frame := range []int{0, 3, 127} {
		m := full(t)
		pointer := uint64(256*frame + 1)
		for page := range 256 {
			e := uint64(256*page + 0xcf)
			checkLay(t, m, frame, frame, page, page, e)
			checkEntry(t, m, frame, page/16, pointer, true)
			if page/16 == page%16 {
				checkWalk(t, m, frame, uint64(256*page), 0, nothing)
			} else {
				checkEntry(t, m, frame, page%16, e, true)
				checkWalk(t, m, frame, uint64(256*page), e, found)
			}
		}
	}
	m := full(t)
	checkLay(t, m, 3, 3, -1, 0, 0x4dcf)
	checkEntry(t, m, 3, 0, 0x301, true)
	checkLay(t, m, 3, 3, 256, 255, 0x4dcf)
	checkEntry(t, m, 3, 15, 0x301, true)
}

func checkRefused(t *testing.T, m *mem.Memory, root, low, page int) {
	t.Helper()
	if f := walk.Lay(m, root, low, page, 0x4dcf); f != api.ErrRange {
		t.Errorf("P11.2: Lay(%d, %d, %d) = %v, want %v", root, low, page, f, api.ErrRange)
	}
}

func TestLayOutOfMemory(t *testing.T) {
	m := full(t)
	for _, frame := range noFrames {
		for _, page := range []int{math.MinInt, -1, 0, 5, 17, 255, 256, math.MaxInt} {
			for _, other := range append(noFrames, 0, 1, 2, 126, 127) {
				checkRefused(t, m, frame, other, page)
				checkRefused(t, m, other, frame, page)
				checkRefused(t, nil, frame, other, page)
				checkRefused(t, nil, other, frame, page)
			}
		}
	}
	mustBeSame(t, "P11.2: after what was refused", m, full(t))
}

func TestLayOnNoMemory(t *testing.T) {
	for _, frame := range []int{0, 1, 2, 127} {
		for _, page := range []int{math.MinInt, -1, 0, 5, 17, 255, 256, math.MaxInt} {
			for _, other := range []int{0, 1, 2, 127} {
				if f := walk.Lay(nil, frame, other, page, 0x4dcf); f != api.OK {
					t.Errorf("P11.2: Lay of none (%d, %d, %d) = %v", frame, other, page, f)
				}
			}
		}
	}
	for index := range 16 {
		checkEntry(t, nil, 1, index, 0, true)
		checkEntry(t, nil, 2, index, 0, true)
	}
	mustBeSame(t, "P11.2: a memory made after Lay of none", mem.New(), nil)
}

// ownLeaf: another one for each page of each of two tables.
func ownLeaf(table, page int) uint64 {
	bits := leafBits()
	return pte.Make(page*7+table, int(bits[(page+table)%len(bits)]))
}

// TestLaidIsFound: two tables of 256 pages, laid by turns; each low table has sixteen pages.
func TestLaidIsFound(t *testing.T) {
	m := mem.New()
	roots, lows := [2]int{1, 126}, [2]int{16, 64}
	for page := range 256 {
		for table, root := range roots {
			if f := walk.Lay(m, root, lows[table]+page/16, page, ownLeaf(table, page)); f != api.OK {
				t.Fatalf("P11.2: Lay of page %d of table %d: %v", page, table, f)
			}
		}
	}
	for page := range 256 {
		for table, root := range roots {
			for _, low := range []uint64{0, 0x12, 0xff} {
				if e, code := walk.Walk(m, root, uint64(256*page)+low); e != ownLeaf(table, page) || code != found {
					t.Errorf("P11.3: page %d of table %d: %#x, %d, want %#x", page, table, e, code, ownLeaf(table, page))
				}
			}
		}
	}
}

func TestLaidAgainIsFound(t *testing.T) {
	m := mem.New()
	for n := range 3 {
		for page := range 16 {
			walk.Lay(m, 1, 2+n, 0x50+page, ownLeaf(n, page))
			checkWalk(t, m, 1, uint64(0x5000+256*page), ownLeaf(n, page), found)
		}
	}
	put(t, m, 1, 5, 0x20cf) // a great page gives way to a pointer
	walk.Lay(m, 1, 3, 0x5b, 0x4dcf)
	checkWalk(t, m, 1, 0x5b00, 0x4dcf, found)
	checkWalk(t, m, 1, 0x5a00, ownLeaf(1, 10), found)
}
