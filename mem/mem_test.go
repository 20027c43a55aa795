package mem_test

import (
	"math"
	"strings"
	"testing"

	"sallyport/api"
	"sallyport/mem"
)

var sizes = []int{1, 2, 4, 8}

// wrongSizes: beside those that aren't sizes at once, such as would be one if only their lowest bits counted.
var wrongSizes = []int{
	math.MinInt, math.MinInt + 8, -8, -4, -2, -1, 0, 3, 5, 6, 7, 9, 10, 12, 16, 32, 64, 128,
	257, 1<<16 + 2, 1<<32 + 4, 1<<40 + 8, math.MaxInt - 1, math.MaxInt,
}

// model: what memory should hold, byte by byte.
type model [api.MemSize]byte

func (b *model) put(at, n int, v uint64) {
	for i := range n {
		b[at+i] = byte(v)
		v /= 256
	}
}

func (b *model) number(at, n int) uint64 {
	v := uint64(0)
	for i := n - 1; i >= 0; i-- {
		v = 256*v + uint64(b[at+i])
	}
	return v
}

// full: a memory without noughts, of which no two neighbours are alike, and what it holds.
func full(t *testing.T) (*mem.Memory, *model) {
	t.Helper()
	b := new(model)
	for i := range b {
		b[i] = byte(1 + i%251)
	}
	m := mem.New()
	if e := m.Lay(0, string(b[:])); e != api.OK {
		t.Fatalf("P6.1: Lay of all of memory: %v", e)
	}
	return m, b
}

func mustHold(t *testing.T, what string, m *mem.Memory, b *model) {
	t.Helper()
	for f := range api.Frames {
		if got, want := m.Frame(f), string(b[f*api.PageSize:][:api.PageSize]); got != want {
			t.Fatalf("%s: frame %d is %q, want %q", what, f, got, want)
		}
	}
}

func TestNoughtsAtFirst(t *testing.T) {
	m := mem.New()
	mustHold(t, "P6.1: a new memory", m, new(model))
	for at := uint64(0); at < api.MemSize; at += 8 {
		if v, e := m.Read(at, 8); v != 0 || e != api.OK {
			t.Fatalf("P6.1: Read(%d, 8) of a new memory = %#x, %v", at, v, e)
		}
	}
}

func TestNewOnesAreApart(t *testing.T) {
	m, o := mem.New(), mem.New()
	m.Write(16, 8, math.MaxUint64)
	mustHold(t, "P6.1: beside one that was written", o, new(model))
	mustHold(t, "P6.1: made after one that was written", mem.New(), new(model))
}

func TestExample(t *testing.T) {
	m := mem.New()
	if e := m.Write(8, 4, 1); e != api.OK {
		t.Errorf("P6.1: Write(8, 4, 1) = %v", e)
	}
	if v, e := m.Read(8, 8); v != 1 || e != api.OK {
		t.Errorf("P6.1: Read(8, 8) = %#x, %v, want 1", v, e)
	}
}

// asked: a place and a size at which Read and Write must answer want.
type asked struct {
	at   uint64
	n    int
	want api.Errno
}

func edges() []asked {
	return []asked{
		{0, 1, api.OK},
		{0, 2, api.OK},
		{0, 4, api.OK},
		{0, 8, api.OK},
		{32767, 1, api.OK},
		{32766, 2, api.OK},
		{32764, 4, api.OK},
		{32760, 8, api.OK},
		{32768, 1, api.ErrRange},
		{32768, 2, api.ErrRange},
		{32768, 4, api.ErrRange},
		{32768, 8, api.ErrRange},
		{32767, 2, api.ErrAlign},
		{32765, 4, api.ErrAlign},
		{32766, 4, api.ErrAlign},
		{32761, 8, api.ErrAlign},
		{32764, 8, api.ErrAlign},
		{32769, 1, api.ErrRange},
		{32769, 2, api.ErrAlign},
		{32770, 2, api.ErrRange},
		{32770, 4, api.ErrAlign},
		{32772, 4, api.ErrRange},
		{32772, 8, api.ErrAlign},
		{32776, 8, api.ErrRange},
		{65536, 1, api.ErrRange},
		{1 << 32, 8, api.ErrRange},
		{1<<32 + 8, 8, api.ErrRange},
		{1<<63 - 8, 8, api.ErrRange},
		{1 << 63, 8, api.ErrRange},
		{1<<63 + 4, 4, api.ErrRange},
		{math.MaxUint64, 1, api.ErrRange},
		{math.MaxUint64, 2, api.ErrAlign},
		{math.MaxUint64, 4, api.ErrAlign},
		{math.MaxUint64, 8, api.ErrAlign},
		{math.MaxUint64 - 1, 2, api.ErrRange},
		{math.MaxUint64 - 3, 4, api.ErrRange},
		{math.MaxUint64 - 7, 8, api.ErrRange},
	}
}

func unaligned() []asked {
	var out []asked
	for _, base := range []uint64{0, 1024, 32760, 32768, 65536, 1 << 63, math.MaxUint64 - 7} {
		for off := range uint64(8) {
			for _, n := range sizes {
				if off%uint64(n) != 0 {
					out = append(out, asked{base + off, n, api.ErrAlign})
				}
			}
		}
		for _, n := range wrongSizes {
			out = append(out, asked{base, n, api.ErrAlign}, asked{base + 1, n, api.ErrAlign})
		}
	}
	for _, n := range wrongSizes {
		out = append(out, asked{uint64(n), n, api.ErrAlign}) // a multiple of a wrong size
	}
	return out
}

func TestReadTellsErrors(t *testing.T) {
	m, b := full(t)
	for _, c := range append(edges(), unaligned()...) {
		want := uint64(0)
		if c.want == api.OK {
			want = b.number(int(c.at), c.n)
		}
		if v, e := m.Read(c.at, c.n); v != want || e != c.want {
			t.Errorf("P6.1: Read(%#x, %d) = %#x, %v, want %#x, %v", c.at, c.n, v, e, want, c.want)
		}
	}
	mustHold(t, "P6.1: after it was only read", m, b)
}

func TestWriteTellsErrors(t *testing.T) {
	const v = 0xfffefdfc80fdfeff
	for _, c := range append(edges(), unaligned()...) {
		m, b := full(t)
		if e := m.Write(c.at, c.n, v); e != c.want {
			t.Errorf("P6.1: Write(%#x, %d) = %v, want %v", c.at, c.n, e, c.want)
		}
		if c.want == api.OK {
			b.put(int(c.at), c.n, v)
		}
		mustHold(t, "P6.1: after a Write", m, b)
	}
}

func TestLeastFirst(t *testing.T) {
	m := mem.New()
	m.Write(1024, 8, 0xf1e2d3c4b5a69788)
	if got := m.Frame(4)[:9]; got != "\x88\x97\xa6\xb5\xc4\xd3\xe2\xf1\x00" {
		t.Errorf("P6.1: eight bytes lie as %q", got)
	}
	for _, c := range []struct {
		at   uint64
		n    int
		want uint64
	}{
		{1024, 1, 0x88},
		{1031, 1, 0xf1},
		{1026, 2, 0xb5a6},
		{1030, 2, 0xf1e2},
		{1024, 4, 0xb5a69788},
		{1028, 4, 0xf1e2d3c4},
		{1024, 8, 0xf1e2d3c4b5a69788},
	} {
		if v, e := m.Read(c.at, c.n); v != c.want || e != api.OK {
			t.Errorf("P6.1: Read(%d, %d) = %#x, %v, want %#x", c.at, c.n, v, e, c.want)
		}
	}
}

// mustReadAs reads the 32 bytes around at in every size.
func mustReadAs(t *testing.T, m *mem.Memory, b *model, at int) {
	t.Helper()
	for near := max(at-16, 0) &^ 7; near < min(at+16, api.MemSize); near++ {
		for _, n := range sizes {
			if near%n != 0 {
				continue
			}
			if v, e := m.Read(uint64(near), n); v != b.number(near, n) || e != api.OK {
				t.Fatalf("P6.2: after a Write at %d: Read(%d, %d) = %#x, %v, want %#x", at, near, n, v, e, b.number(near, n))
			}
		}
	}
}

func TestWrittenIsReadInEachSize(t *testing.T) {
	for _, v := range []uint64{0, 1, 0x80, 0xff, 0xff00, 0x8000000000000000, 0x0123456789abcdef, 0xfedcba9876543210, math.MaxUint64} {
		m, b := full(t)
		for _, base := range []int{0, 8, 248, 256, 1024, 16384, 32512, 32752, 32760} {
			for _, n := range sizes {
				for at := base; at < base+8; at += n {
					if e := m.Write(uint64(at), n, v); e != api.OK {
						t.Fatalf("P6.1: Write(%d, %d) = %v", at, n, e)
					}
					b.put(at, n, v)
					mustReadAs(t, m, b, at)
				}
			}
		}
		mustHold(t, "P6.2: beside what was written", m, b)
	}
}

func TestWrittenIsReadEverywhere(t *testing.T) {
	for _, n := range sizes {
		m := mem.New()
		b := new(model)
		for at := 0; at < api.MemSize; at += n {
			v := uint64(at+1) * 0x9e3779b97f4a7c15
			if e := m.Write(uint64(at), n, v); e != api.OK {
				t.Fatalf("P6.1: Write(%d, %d) = %v", at, n, e)
			}
			b.put(at, n, v)
		}
		for at := 0; at < api.MemSize; at += n {
			if v, e := m.Read(uint64(at), n); v != b.number(at, n) || e != api.OK {
				t.Fatalf("P6.2: Read(%d, %d) = %#x, %v, want %#x", at, n, v, e, b.number(at, n))
			}
		}
		mustHold(t, "P6.2: written all over", m, b)
	}
}

func TestLay(t *testing.T) {
	whole := strings.Repeat("wxyz", api.MemSize/4)
	for _, c := range []struct {
		at   uint64
		b    string
		want api.Errno
	}{
		{0, "abc", api.OK},
		{1001, "abcdefghijk", api.OK},
		{1001, "\x00\xff\xc3\xa9\xc3", api.OK},
		{255, "over a frame's end", api.OK},
		{32765, "abc", api.OK},
		{32766, "abc", api.ErrRange},
		{32767, "a", api.OK},
		{32767, "ab", api.ErrRange},
		{32768, "a", api.ErrRange},
		{32769, "a", api.ErrRange},
		{1 << 32, "a", api.ErrRange},
		{1 << 63, "a", api.ErrRange},
		{math.MaxUint64, "a", api.ErrRange},
		{math.MaxUint64, "ab", api.ErrRange},
		{math.MaxUint64 - 1, "abcd", api.ErrRange},
		{0, "", api.OK},
		{1001, "", api.OK},
		{32767, "", api.OK},
		{32768, "", api.OK},
		{32769, "", api.ErrRange},
		{1 << 32, "", api.ErrRange},
		{1 << 63, "", api.ErrRange},
		{math.MaxUint64, "", api.ErrRange},
		{0, whole, api.OK},
		{0, whole + "a", api.ErrRange},
		{1, whole, api.ErrRange},
		{1, whole[1:], api.OK},
		{math.MaxUint64, whole, api.ErrRange},
	} {
		m, b := full(t)
		if e := m.Lay(c.at, c.b); e != c.want {
			t.Errorf("P6.1: Lay(%#x, of %d bytes) = %v, want %v", c.at, len(c.b), e, c.want)
		}
		if c.want == api.OK {
			copy(b[c.at:], c.b)
		}
		mustHold(t, "P6.1: after a Lay", m, b)
	}
}

func TestLaidIsRead(t *testing.T) {
	m := mem.New()
	m.Lay(1001, "\x01\x02\x83\x04\x05\xff\x07\x08")
	for _, c := range []struct {
		at   uint64
		n    int
		want uint64
	}{
		{1000, 8, 0x07ff050483020100},
		{1008, 8, 0x08},
		{1002, 2, 0x8302},
		{1004, 4, 0x07ff0504},
		{1006, 1, 0xff},
		{1009, 1, 0},
	} {
		if v, e := m.Read(c.at, c.n); v != c.want || e != api.OK {
			t.Errorf("P6.2: Read(%d, %d) = %#x, %v, want %#x", c.at, c.n, v, e, c.want)
		}
	}
}

func TestFrame(t *testing.T) {
	m, b := full(t)
	for _, f := range []int{0, 1, 2, 63, 126, 127} {
		if got, want := m.Frame(f), string(b[f*256:f*256+256]); got != want {
			t.Errorf("P6.1: Frame(%d) = %q, want %q", f, got, want)
		}
	}
	for _, f := range []int{math.MinInt, math.MinInt + 1, -1 << 32, -129, -128, -127, -2, -1, 128, 129, 256, 1 << 32, 1 << 55, 1 << 56, 1<<56 + 1, math.MaxInt - 1, math.MaxInt} {
		if got := m.Frame(f); got != "" {
			t.Errorf("P6.1: Frame(%d) = %q, want none", f, got)
		}
	}
}

func TestFrameStaysAsItWas(t *testing.T) {
	m, b := full(t)
	first, last := m.Frame(0), m.Frame(127)
	for at := uint64(0); at < api.MemSize; at += 8 {
		m.Write(at, 8, 0)
	}
	m.Lay(32512, strings.Repeat("z", 256))
	if first != string(b[:256]) || last != string(b[32512:]) {
		t.Error("P6.1: what Frame answered changed when memory was written")
	}
}

// changed: a copy of m, of which the byte at that place is another.
func changed(m *mem.Memory, at uint64) *mem.Memory {
	o := m.Copy()
	v, _ := o.Read(at, 1)
	o.Write(at, 1, v^0x80)
	return o
}

func TestSame(t *testing.T) {
	nought := mem.New()
	m, _ := full(t)
	for _, c := range []struct {
		what string
		a, b *mem.Memory
		want bool
	}{
		{"with itself", m, m, true},
		{"of noughts, with itself", nought, nought, true},
		{"with its copy", m, m.Copy(), true},
		{"of noughts, with its copy", nought, nought.Copy(), true},
		{"of noughts, with a new one", nought, mem.New(), true},
		{"with noughts", m, nought, false},
		{"but for the first byte", m, changed(m, 0), false},
		{"but for one in the middle", m, changed(m, 16385), false},
		{"but for the last byte", m, changed(m, 32767), false},
		{"of noughts but for the first byte", nought, changed(nought, 0), false},
		{"of noughts but for the last byte", nought, changed(nought, 32767), false},
		{"changed there and back", m, changed(changed(m, 7), 7), true},
	} {
		if got := c.a.Same(c.b); got != c.want {
			t.Errorf("P6.1: Same %s = %t", c.what, got)
		}
		if got := c.b.Same(c.a); got != c.want {
			t.Errorf("P6.1: Same %s, the other way = %t", c.what, got)
		}
	}
}

func TestSameAsNone(t *testing.T) {
	nought := mem.New()
	m, b := full(t)
	for _, c := range []struct {
		what string
		m    *mem.Memory
		want bool
	}{
		{"of noughts", nought, true},
		{"without noughts", m, false},
		{"of noughts but for the first byte", changed(nought, 0), false},
		{"of noughts but for the last byte", changed(nought, 32767), false},
		{"of noughts again", changed(changed(nought, 32767), 32767), true},
	} {
		if got := c.m.Same(nil); got != c.want {
			t.Errorf("P6.1: Same(nil) of one %s = %t", c.what, got)
		}
	}
	mustHold(t, "P6.1: after Same", m, b)
	mustHold(t, "P6.1: after Same", nought, new(model))
}

func TestCopy(t *testing.T) {
	m, b := full(t)
	o := m.Copy()
	if o == nil || o == m {
		t.Fatal("P6.1: a copy is another memory")
	}
	mustHold(t, "P6.1: a copy", o, b)
	own, other := *b, *b
	m.Write(0, 8, 0)
	own.put(0, 8, 0)
	mustHold(t, "P6.1: a copy when its original was written", o, &other)
	o.Write(32760, 8, math.MaxUint64)
	other.put(32760, 8, math.MaxUint64)
	mustHold(t, "P6.1: the original when its copy was written", m, &own)
	m.Lay(1001, "original")
	copy(own[1001:], "original")
	o.Lay(1003, "copy")
	copy(other[1003:], "copy")
	mustHold(t, "P6.1: the original after all", m, &own)
	mustHold(t, "P6.1: the copy after all", o, &other)
	if m.Same(o) || o.Same(m) {
		t.Error("P6.1: Same of two that went apart")
	}
}

func TestCopyOfCopy(t *testing.T) {
	m, b := full(t)
	o := m.Copy()
	p, q := o.Copy(), o.Copy()
	o.Write(512, 4, 0)
	p.Write(512, 4, math.MaxUint64)
	mustHold(t, "P6.1: the original of copies", m, b)
	mustHold(t, "P6.1: a copy beside others", q, b)
}

func TestCopyTakesAllSizes(t *testing.T) {
	o := mem.New().Copy()
	for _, c := range edges() {
		if e := o.Write(c.at, c.n, 0); e != c.want {
			t.Errorf("P6.1: Write(%#x, %d) into a copy = %v, want %v", c.at, c.n, e, c.want)
		}
	}
	if !o.Same(nil) {
		t.Error("P6.1: a copy of noughts with noughts written isn't of noughts")
	}
}
