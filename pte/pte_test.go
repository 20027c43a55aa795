package pte_test

import (
	"math"
	"strconv"
	"strings"
	"testing"

	"sallyport/api"
	"sallyport/pte"
)

// named: the chapter's bits by their letters, in the order of Text; bit 5 has none.
var named = []struct {
	letter string
	value  uint64
}{{"V", 1}, {"R", 2}, {"W", 4}, {"X", 8}, {"U", 16}, {"A", 64}, {"D", 128}}

// lettersOf: by division, unlike the program's masks.
func lettersOf(e uint64) string {
	out := ""
	for _, n := range named {
		if e/n.value%2 == 1 {
			out += n.letter
		}
	}
	return out
}

func has(letters, letter string) bool { return strings.Contains(letters, letter) }

// bitsOf: the number whose bits are these letters'.
func bitsOf(letters string) int {
	bits := 0
	for _, n := range named {
		if has(letters, n.letter) {
			bits += int(n.value)
		}
	}
	return bits
}

func isEntry(e uint64) bool {
	l := lettersOf(e)
	return has(l, "V") && (!has(l, "W") || has(l, "R")) && e/32%2 == 0 && e < 1<<16
}

func isLeaf(e uint64) bool {
	l := lettersOf(e)
	return isEntry(e) && (has(l, "R") || has(l, "X"))
}

// may: what the chapter says, with the letters of a leaf.
func may(l string, kind int, user, sum, mxr bool) bool {
	if !has(l, "A") {
		return false
	}
	if user && !has(l, "U") {
		return false
	}
	if !user && has(l, "U") && !(sum && (kind == api.Load || kind == api.Store)) {
		return false
	}
	switch kind {
	case api.Fetch:
		return has(l, "X")
	case api.Load:
		return has(l, "R") || mxr && has(l, "X")
	case api.Store:
		return has(l, "W") && has(l, "D")
	}
	return false
}

// ints: within eight bits, their bounds, one past them, below 0, the ends of int.
var ints = []int{
	0, 1, 2, 3, 9, 16, 0x55, 0xaa, 127, 128, 254, 255, 256, 257, 511, 512, 0x1234, 65535, 65536, 65537, 1 << 32, 1<<32 + 3,
	-1, -2, -128, -255, -256, -257, -65536, math.MinInt32, math.MaxInt32,
	math.MinInt, math.MinInt + 1, math.MinInt + 255, math.MaxInt - 256, math.MaxInt - 1, math.MaxInt,
}

// low: what is left of n modulo 256.
func low(n int) uint64 { return uint64((n%256 + 256) % 256) }

func TestMakeKnown(t *testing.T) {
	for _, c := range []struct {
		frame, bits int
		want        uint64
	}{
		{0, 0, 0}, {3, 0xcf, 0x3cf}, {0, 255, 0xff}, {255, 0, 0xff00}, {255, 255, 0xffff}, {0x12, 0x34, 0x1234}, {0, 32, 32},
		{256, 256, 0}, {257, 0, 0x100}, {0, 257, 1}, {256, 257, 1}, {257, 256, 0x100}, {0x1ff, 0x1fe, 0xfffe},
		{-1, 0, 0xff00}, {0, -1, 0xff}, {-1, -1, 0xffff}, {-2, -3, 0xfefd}, {-256, -256, 0}, {-255, -257, 0x1ff},
		{math.MinInt, 5, 5}, {5, math.MinInt, 0x500}, {math.MaxInt, 5, 0xff05}, {5, math.MaxInt, 0x5ff},
		{math.MaxInt, math.MinInt, 0xff00}, {math.MinInt, math.MaxInt, 0xff}, {math.MinInt + 1, math.MaxInt - 1, 0x1fe},
	} {
		if got := pte.Make(c.frame, c.bits); got != c.want {
			t.Errorf("P10.1: Make(%d, %d) = %#x, want %#x", c.frame, c.bits, got, c.want)
		}
	}
}

func TestMakeOfEachBit(t *testing.T) {
	for bit := range 64 {
		n := int(uint64(1) << bit)
		want := uint64(0)
		if bit < 8 {
			want = 1 << bit
		}
		for _, other := range []int{0, -1, 0x55, 0x100} {
			if got := pte.Make(n, other); got != want*256+low(other) {
				t.Errorf("P10.1: Make of frame bit %d, bits %d: %#x", bit, other, got)
			}
			if got := pte.Make(other, n); got != low(other)*256+want {
				t.Errorf("P10.1: Make of frame %d, bit %d: %#x", other, bit, got)
			}
			if got := pte.Make(^n, other); got != (255-want)*256+low(other) {
				t.Errorf("P10.1: Make of all but frame bit %d, bits %d: %#x", bit, other, got)
			}
			if got := pte.Make(other, ^n); got != low(other)*256+255-want {
				t.Errorf("P10.1: Make of frame %d, all but bit %d: %#x", other, bit, got)
			}
		}
	}
}

func TestMakeOfAll(t *testing.T) {
	for frame := range 256 {
		for bits := range 256 {
			if got, want := pte.Make(frame, bits), uint64(frame*256+bits); got != want {
				t.Fatalf("P10.1: Make(%d, %d) = %#x, want %#x", frame, bits, got, want)
			}
		}
	}
	for _, frame := range ints {
		for _, bits := range ints {
			if got, want := pte.Make(frame, bits), low(frame)*256+low(bits); got != want {
				t.Errorf("P10.1: Make(%d, %d) = %#x, want %#x", frame, bits, got, want)
			}
		}
	}
}

func TestFrame(t *testing.T) {
	for bit := range 64 {
		want := 0
		if bit >= 8 && bit < 16 {
			want = 1 << (bit - 8)
		}
		if got := pte.Frame(1 << bit); got != want {
			t.Errorf("P10.1: Frame of bit %d = %d, want %d", bit, got, want)
		}
		if got := pte.Frame(math.MaxUint64 - 1<<bit); got != 255-want {
			t.Errorf("P10.1: Frame of all but bit %d = %d, want %d", bit, got, 255-want)
		}
	}
	for frame := range 256 {
		for _, beside := range []uint64{0, 1, 0xff, 1 << 16, 1 << 63, math.MaxUint64 - 0xff00} {
			if got := pte.Frame(uint64(frame)*256 + beside); got != frame {
				t.Errorf("P10.1: Frame of frame %d beside %#x = %d", frame, beside, got)
			}
		}
	}
}

func TestFrameOfMade(t *testing.T) {
	for _, frame := range ints {
		for _, bits := range ints {
			if got, want := pte.Frame(pte.Make(frame, bits)), int(low(frame)); got != want {
				t.Errorf("P10.1: Frame(Make(%d, %d)) = %d, want %d", frame, bits, got, want)
			}
		}
	}
}

func TestIsLeafKnown(t *testing.T) {
	for _, c := range []struct {
		e        uint64
		is, leaf bool
	}{
		{0, false, false}, {1, true, false}, {2, false, false}, {3, true, true}, {4, false, false}, {5, false, false},
		{6, false, false}, {7, true, true}, {8, false, false}, {9, true, true}, {0xb, true, true}, {0xd, false, false},
		{0xe, false, false}, {0xf, true, true}, {0x11, true, false}, {0x13, true, true}, {0x41, true, false}, {0x81, true, false},
		{0xd1, true, false}, {0xdf, true, true}, {0xde, false, false}, {0xdd, false, false}, {0xff, false, false},
		{0x20, false, false}, {0x21, false, false}, {0x23, false, false}, {0x29, false, false}, {0x2f, false, false},
		{0xff00, false, false}, {0xff01, true, false}, {0xffdf, true, true}, {0xffff, false, false}, {0x103, true, true},
		{0x10001, false, false}, {0x10003, false, false}, {1<<32 | 3, false, false}, {1<<63 | 1, false, false}, {1<<63 | 9, false, false},
		{math.MaxUint64, false, false}, {math.MaxUint64 - 32, false, false}, {1 << 63, false, false},
	} {
		if is, leaf := pte.Is(c.e), pte.Leaf(c.e); is != c.is || leaf != c.leaf {
			t.Errorf("P10.1: %#x: Is %v, Leaf %v, want %v, %v", c.e, is, leaf, c.is, c.leaf)
		}
	}
}

func checkIsLeaf(t *testing.T, e uint64) {
	t.Helper()
	if got := pte.Is(e); got != isEntry(e) {
		t.Errorf("P10.1: Is(%#x) = %v", e, got)
	}
	if got := pte.Leaf(e); got != isLeaf(e) {
		t.Errorf("P10.1: Leaf(%#x) = %v", e, got)
	}
}

func TestIsLeafOfAllLow(t *testing.T) {
	for e := range uint64(1 << 16) {
		checkIsLeaf(t, e)
	}
}

func TestIsLeafWithHighBits(t *testing.T) {
	for bits := range uint64(256) {
		for _, frame := range []uint64{0, 0x100, 0x8000, 0xff00} {
			for bit := 16; bit < 64; bit++ {
				checkIsLeaf(t, bits+frame+1<<bit)
				if e := bits + frame + 1<<bit; pte.Is(e) || pte.Leaf(e) {
					t.Errorf("P10.1: %#x has bit %d: Is %v, Leaf %v", e, bit, pte.Is(e), pte.Leaf(e))
				}
			}
			checkIsLeaf(t, bits+frame+(math.MaxUint64-0xffff))
		}
	}
}

// kinds: those that there are, and none.
var kinds = []int{
	api.Fetch, api.Load, api.Store,
	-1, 3, 4, -2, -3, 8, 15, 255, 256, 257, 258, 65536, 1 << 32, 1<<32 + 1, 1<<32 + 2, math.MinInt32, math.MaxInt32,
	math.MinInt, math.MinInt + 1, math.MinInt + 2, math.MaxInt - 1, math.MaxInt,
}

// eachAsked: of each kind, by whom and with what.
func eachAsked(of func(kind int, user, sum, mxr bool)) {
	for _, kind := range kinds {
		for n := range 8 {
			of(kind, n%2 == 1, n/2%2 == 1, n/4 == 1)
		}
	}
}

func TestMayKnown(t *testing.T) {
	const (
		none = 1 << iota // by the supervisor
		user
		sum
		mxr
	)
	for _, c := range []struct {
		letters            string
		how                int
		fetch, load, store bool
	}{
		{"VRWXAD", none, true, true, true},
		{"VRWXAD", user, false, false, false},
		{"VRWXAD", user | sum | mxr, false, false, false},
		{"VRWXAD", sum | mxr, true, true, true},
		{"VRWXUAD", none, false, false, false},
		{"VRWXUAD", sum, false, true, true},
		{"VRWXUAD", mxr, false, false, false},
		{"VRWXUAD", user, true, true, true},
		{"VRWXUAD", user | sum | mxr, true, true, true},
		{"VRWXUD", user | sum | mxr, false, false, false},
		{"VRWXD", sum | mxr, false, false, false},
		{"VXA", none, true, false, false},
		{"VXA", mxr, true, true, false},
		{"VXA", sum, true, false, false},
		{"VXUA", sum, false, false, false},
		{"VXUA", sum | mxr, false, true, false},
		{"VXUA", user, true, false, false},
		{"VXUA", user | mxr, true, true, false},
		{"VRA", none, false, true, false},
		{"VRAD", none, false, true, false},
		{"VRWA", none, false, true, false},
		{"VRWA", sum | mxr, false, true, false},
		{"VRWAD", none, false, true, true},
		{"VRUA", user, false, true, false},
		{"VRWUAD", user, false, true, true},
		{"VRWUAD", sum, false, true, true},
		{"VA", none, false, false, false},
		{"VUA", user | mxr, false, false, false},
		{"VAD", sum | mxr, false, false, false},
		{"", none, false, false, false},
		{"", user | sum | mxr, false, false, false},
	} {
		for _, k := range []struct {
			kind int
			want bool
		}{{api.Fetch, c.fetch}, {api.Load, c.load}, {api.Store, c.store}, {-1, false}, {3, false}} {
			if got := pte.May(bitsOf(c.letters), k.kind, c.how&user > 0, c.how&sum > 0, c.how&mxr > 0); got != k.want {
				t.Errorf("P10.2: May of %q, kind %d, user %v, sum %v, mxr %v: %v", c.letters, k.kind, c.how&user > 0, c.how&sum > 0, c.how&mxr > 0, got)
			}
		}
	}
}

func TestMayOfAll(t *testing.T) {
	for bits := range 256 {
		letters := lettersOf(uint64(bits))
		eachAsked(func(kind int, user, sum, mxr bool) {
			if got := pte.May(bits, kind, user, sum, mxr); got != may(letters, kind, user, sum, mxr) {
				t.Errorf("P10.2: May(%q, %d, %v, %v, %v) = %v", letters, kind, user, sum, mxr, got)
			}
		})
	}
}

// What lies beyond the eight bits lets nothing and bars nothing.
func TestMayBeyondEight(t *testing.T) {
	for _, bits := range ints {
		letters := lettersOf(low(bits))
		eachAsked(func(kind int, user, sum, mxr bool) {
			if got := pte.May(bits, kind, user, sum, mxr); got != may(letters, kind, user, sum, mxr) {
				t.Errorf("P10.2: May(%d, %d, %v, %v, %v) = %v", bits, kind, user, sum, mxr, got)
			}
		})
	}
	for bits := range 256 {
		letters := lettersOf(uint64(bits))
		for _, above := range []int{256, 0x4200, 0xff00, 1 << 32, math.MaxInt - 255, math.MinInt, -256, -65536} {
			eachAsked(func(kind int, user, sum, mxr bool) {
				if got := pte.May(above+bits, kind, user, sum, mxr); got != may(letters, kind, user, sum, mxr) {
					t.Errorf("P10.2: May(%d + %q, %d, %v, %v, %v) = %v", above, letters, kind, user, sum, mxr, got)
				}
			})
		}
	}
}

func TestTextKnown(t *testing.T) {
	for _, c := range []struct {
		e    uint64
		want string
	}{
		{0, " 0"}, {1, "V 0"}, {2, "R 0"}, {4, "W 0"}, {8, "X 0"}, {16, "U 0"}, {32, " 0"}, {64, "A 0"}, {128, "D 0"},
		{0xff, "VRWXUAD 0"}, {0xdf, "VRWXUAD 0"}, {0x3cf, "VRWXAD 3"}, {0xffff, "VRWXUAD 255"},
		{0x900, " 9"}, {0xa00, " 10"}, {0x6300, " 99"}, {0x6400, " 100"}, {0xff00, " 255"},
		{0x901, "V 9"}, {0xa82, "RD 10"}, {0x63d0, "UAD 99"}, {0x644f, "VRWXA 100"}, {0x800f, "VRWX 128"},
		{0x10003, "VR 0"}, {0x7f8000c5, "VWAD 0"}, {1 << 63, " 0"}, {1<<63 | 0x105, "VW 1"}, {math.MaxUint64, "VRWXUAD 255"}, {math.MaxUint64 - 0xff, " 255"},
	} {
		if got := pte.Text(c.e); got != c.want {
			t.Errorf("P10.2: Text(%#x) = %q, want %q", c.e, got, c.want)
		}
	}
	if got := pte.Text(pte.Make(3, 0xcf)); got != "VRWXAD 3" {
		t.Errorf("P10.2: Text(Make(3, 0xcf)) = %q", got)
	}
}

func TestTextOfAllLow(t *testing.T) {
	for e := range uint64(1 << 16) {
		want := lettersOf(e) + " " + strconv.Itoa(int(e/256))
		if got := pte.Text(e); got != want {
			t.Fatalf("P10.2: Text(%#x) = %q, want %q", e, got, want)
		}
	}
}

// What an entry can't have isn't told, whatever it is beside.
func TestTextWithHighBits(t *testing.T) {
	for bit := 16; bit < 64; bit++ {
		for _, e := range []uint64{0, 0x3cf, 0x63ff, 0x6400, 0xffff} {
			want := lettersOf(e) + " " + strconv.Itoa(int(e/256))
			if got := pte.Text(e + 1<<bit); got != want {
				t.Errorf("P10.2: Text(%#x with bit %d) = %q, want %q", e, bit, got, want)
			}
		}
	}
}

// Neither where it leads, nor whether it is an entry at all, nor what has no part in it is asked.
func TestMayByBitsAlone(t *testing.T) {
	for bits := range 256 {
		eachAsked(func(kind int, user, sum, mxr bool) {
			want := pte.May(bits, kind, user, sum, mxr)
			for _, same := range []int{bits ^ 1, bits ^ 32, int(pte.Make(255, bits)), int(pte.Make(128, bits)), int(pte.Make(-1, bits)) - 1<<16} {
				if got := pte.May(same, kind, user, sum, mxr); got != want {
					t.Errorf("P10.3: May(%#x, %d, %v, %v, %v) = %v, but of %#x %v", same, kind, user, sum, mxr, got, bits, want)
				}
			}
		})
	}
}

// Each of the other bits tells somewhere, by itself.
func TestMayByEachBit(t *testing.T) {
	for _, letter := range []string{"R", "W", "X", "U", "A", "D"} {
		told := false
		for bits := range 256 {
			eachAsked(func(kind int, user, sum, mxr bool) {
				told = told || pte.May(bits, kind, user, sum, mxr) != pte.May(bits^bitsOf(letter), kind, user, sum, mxr)
			})
		}
		if !told {
			t.Errorf("P10.3: whether %s is there changes nothing", letter)
		}
	}
}

// What was asked before, of whatever, isn't told.
func TestMayAskedAgain(t *testing.T) {
	var first []bool
	for bits := range 256 {
		eachAsked(func(kind int, user, sum, mxr bool) { first = append(first, pte.May(bits, kind, user, sum, mxr)) })
	}
	many := len(first) / 256
	for bits := 255; bits >= 0; bits-- {
		k := bits * many
		eachAsked(func(kind int, user, sum, mxr bool) {
			pte.Is(uint64(kind))
			pte.Text(pte.Make(kind, bits))
			if got := pte.May(bits, kind, user, sum, mxr); got != first[k] {
				t.Errorf("P10.3: May(%#x, %d, %v, %v, %v) = %v, at first %v", bits, kind, user, sum, mxr, got, first[k])
			}
			k++
		})
	}
}
