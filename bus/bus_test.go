package bus_test

import (
	"math"
	"strings"
	"sync"
	"testing"

	"sallyport/api"
	"sallyport/bus"
	"sallyport/mem"
)

// Places as the document's numbers make them, written out: the program reckons them.
const (
	timeAt  = 0xf000
	alarmAt = 0xf008
)

var portsAt = []uint64{0xf100, 0xf200, 0xf300, 0xf400}

var sizes = []int{1, 2, 4, 8}

// wrongSizes: beside those that aren't sizes at once, such as would be one if only their lowest bits counted.
var wrongSizes = []int{
	math.MinInt, math.MinInt + 8, -8, -4, -2, -1, 0, 3, 5, 6, 7, 9, 10, 12, 16, 32, 64, 128,
	257, 1<<16 + 2, 1<<32 + 1, 1<<32 + 8, 1<<40 + 4, math.MaxInt - 1, math.MaxInt,
}

// strangers: numbers that no port has, among them such as would be one if only their lowest bits counted.
var strangers = []int{
	math.MinInt, math.MinInt + 1, -1 << 32, -257, -256, -5, -4, -3, -2, -1,
	4, 5, 8, 63, 64, 256, 1 << 16, 1 << 32, 1<<32 + 1, math.MaxInt - 1, math.MaxInt,
}

// held: all that a bus can be seen to hold.
type held struct {
	time, alarm   uint64
	input, output [4]string
	room          [4]int // bytes that may still be typed
	memory        string
}

// drained takes all of a port's input out of b.
func drained(t *testing.T, b *bus.Bus, port int) string {
	t.Helper()
	var out []byte
	for range api.MaxInput + 1 {
		v, ok := b.Read(portsAt[port], 1)
		if !ok || v > 255 {
			t.Fatalf("P7.1: Read of port %d = %#x, %t", port, v, ok)
		}
		out = append(out, byte(v))
	}
	return strings.TrimRight(string(out), "\x00")
}

// look tells what b holds by a copy: what is read of a port is gone.
func look(t *testing.T, b *bus.Bus) held {
	t.Helper()
	c := b.Copy()
	var h held
	h.time = mustRead(t, c, timeAt, 8)
	h.alarm = mustRead(t, c, alarmAt, 8)
	for p := range portsAt {
		h.output[p] = c.Output(p)
		h.input[p] = drained(t, c, p)
		c.Type(p, strings.Repeat("r", 2*api.MaxInput))
		h.room[p] = len(drained(t, c, p))
	}
	var frames strings.Builder
	for f := range api.Frames {
		frames.WriteString(c.Mem().Frame(f))
	}
	h.memory = frames.String()
	return h
}

func mustRead(t *testing.T, b *bus.Bus, at uint64, n int) uint64 {
	t.Helper()
	v, ok := b.Read(at, n)
	if !ok {
		t.Fatalf("P7.1: Read(%#x, %d) is told as nothing", at, n)
	}
	return v
}

func mustWrite(t *testing.T, b *bus.Bus, at uint64, n int, v uint64) {
	t.Helper()
	if !b.Write(at, n, v) {
		t.Fatalf("P7.1: Write(%#x, %d, %#x) is told as nothing", at, n, v)
	}
}

func mustHold(t *testing.T, what string, b *bus.Bus, want held) {
	t.Helper()
	got := look(t, b)
	if got.memory != want.memory {
		t.Errorf("%s: memory is another", what)
	}
	got.memory, want.memory = "", ""
	if got != want {
		t.Errorf("%s: it holds\n%#v, want\n%#v", what, got, want)
	}
}

func mustRefuse(t *testing.T, b *bus.Bus, at uint64, n int) {
	t.Helper()
	if v, ok := b.Read(at, n); v != 0 || ok {
		t.Errorf("P7.2: Read(%#x, %d) = %#x, %t, want 0, false", at, n, v, ok)
	}
	if b.Write(at, n, 0x5a5a5a5a5a5a5a5a) {
		t.Errorf("P7.2: Write(%#x, %d) is told as done", at, n)
	}
}

func fresh() held {
	return held{alarm: math.MaxUint64, room: [4]int{64, 64, 64, 64}, memory: strings.Repeat("\x00", 32768)}
}

// full: a bus that holds something everywhere, and what.
func full(t *testing.T) (*bus.Bus, held) {
	t.Helper()
	h := fresh()
	h.memory = strings.Repeat("\x11\x22\x33\x44\x55\x66\x77\x88\x99\xaa\xbb\xcc\xdd\xee\xff\x01", 2048)
	m := mem.New()
	if e := m.Lay(0, h.memory); e != api.OK {
		t.Fatalf("P6.1: Lay of all of memory: %v", e)
	}
	b := bus.New(m)
	h.time, h.alarm = 0x1122334455667788, 0x99aabbccddeeff01
	b.SetTime(h.time)
	mustWrite(t, b, alarmAt, 8, h.alarm)
	for p, at := range portsAt {
		in := []string{"first", "second one", "third", "last of them"}[p]
		h.input[p], h.room[p] = in, 64-len(in)
		b.Type(p, in)
		h.output[p] = []string{"A", "BC", "DEF", "GHIJ"}[p]
		for _, c := range []byte(h.output[p]) {
			mustWrite(t, b, at, 1, uint64(c))
		}
	}
	mustHold(t, "P7.1: what was put in", b, h)
	return b, h
}

func TestNewOfNone(t *testing.T) {
	b := bus.New(nil)
	if b == nil || b.Mem() == nil || !b.Mem().Same(nil) {
		t.Fatal("P7.1: New(nil) has no new memory")
	}
	mustHold(t, "P7.1: New(nil)", b, fresh())
	if b.Timer() {
		t.Error("P7.1: a new bus' alarm is due")
	}
	o := bus.New(nil)
	if b.Mem() == o.Mem() {
		t.Error("P7.1: two new buses have one memory")
	}
	mustWrite(t, b, 8, 8, 1)
	mustWrite(t, b, alarmAt, 8, 1)
	b.SetTime(1)
	b.Type(0, "a")
	mustWrite(t, b, portsAt[0], 1, 'b')
	mustHold(t, "P7.1: New(nil) beside one that was changed", o, fresh())
	mustHold(t, "P7.1: New(nil) after one was changed", bus.New(nil), fresh())
}

func TestNewOfAMemory(t *testing.T) {
	m := mem.New()
	m.Lay(1001, "there before")
	b := bus.New(m)
	if b.Mem() != m {
		t.Error("P7.1: Mem isn't what New was given")
	}
	want := fresh()
	want.memory = want.memory[:1001] + "there before" + want.memory[1013:]
	mustHold(t, "P7.1: New of a memory", b, want)
	if b.Timer() {
		t.Error("P7.1: a new bus' alarm is due")
	}
	o := bus.New(m)
	mustWrite(t, o, 16, 8, 77)
	if v, ok := b.Read(16, 8); v != 77 || !ok {
		t.Errorf("P7.1: two buses of one memory: the other reads %d, %t", v, ok)
	}
}

func TestMemoryIsReadAndWritten(t *testing.T) {
	const v = 0xf1e2d3c4b5a69788
	for _, base := range []uint64{0, 8, 248, 256, 16384, 32752, 32760} {
		for _, n := range sizes {
			for at := base; at < base+8; at += uint64(n) {
				b, model := bus.New(nil), mem.New()
				mustWrite(t, b, at, n, v)
				model.Write(at, n, v)
				if !b.Mem().Same(model) {
					t.Fatalf("P7.1: Write(%#x, %d): Mem holds something else", at, n)
				}
				want, _ := model.Read(at, n)
				if got, ok := b.Read(at, n); got != want || !ok {
					t.Fatalf("P7.1: Read(%#x, %d) = %#x, %t, want %#x", at, n, got, ok, want)
				}
			}
		}
	}
}

func TestMemoryOfMemIsTheBus(t *testing.T) {
	m := mem.New()
	b := bus.New(m)
	m.Lay(1000, "\x01\x02\x83\x04\x05\xff\x07\x08")
	if v, ok := b.Read(1000, 8); v != 0x0807ff0504830201 || !ok {
		t.Errorf("P7.1: what was laid in the memory is read as %#x, %t", v, ok)
	}
	b.Mem().Write(32760, 8, 0x0123456789abcdef)
	if v, ok := b.Read(32764, 4); v != 0x01234567 || !ok {
		t.Errorf("P7.1: what was written through Mem is read as %#x, %t", v, ok)
	}
	mustWrite(t, b, 32766, 2, 0xfffe)
	if v, e := m.Read(32760, 8); v != 0xfffe456789abcdef || e != api.OK {
		t.Errorf("P7.1: what was written through the bus is read as %#x, %v", v, e)
	}
}

func TestWhatMemRefuses(t *testing.T) {
	b, h := full(t)
	for _, base := range []uint64{0, 1024, 32760} {
		for off := range uint64(8) {
			for _, n := range sizes {
				if off%uint64(n) != 0 {
					mustRefuse(t, b, base+off, n)
				}
			}
			for _, n := range wrongSizes {
				mustRefuse(t, b, base+off, n)
			}
		}
	}
	for _, at := range []uint64{
		32768, 32769, 32776, 0x9000, 0xeff8, 0xefff, 0xf500, 0xf508, 0xf600, 0xffff, 0x10000,
		0x17ff8, 0x1f000, 1 << 32, 1<<32 + timeAt, 1<<32 + 0xf100, 1 << 63, 1<<63 + 0xf100, 1<<64 - 0x1000,
		math.MaxUint64 - 7, math.MaxUint64 - 1, math.MaxUint64,
	} {
		for _, n := range append(wrongSizes, sizes...) {
			mustRefuse(t, b, at, n)
		}
	}
	mustHold(t, "P7.2: after what was refused", b, h)
}

func TestWhatNoDeviceHas(t *testing.T) {
	b, h := full(t)
	isThere := func(at uint64, n int) bool {
		switch at {
		case timeAt, alarmAt:
			return n == 8
		case portsAt[0], portsAt[1], portsAt[2], portsAt[3]:
			return n == 1
		}
		return false
	}
	for at := uint64(timeAt - 16); at < 0xf500+16; at++ {
		for _, n := range append(wrongSizes, sizes...) {
			if !isThere(at, n) {
				mustRefuse(t, b, at, n)
			}
		}
	}
	mustHold(t, "P7.2: after what was refused", b, h)
}

func TestExample(t *testing.T) {
	if v, ok := bus.New(nil).Read(0x8000, 1); v != 0 || ok {
		t.Errorf("P7.1: Read(0x8000, 1) = %d, %t", v, ok)
	}
}

func TestTime(t *testing.T) {
	b, h := full(t)
	for _, now := range []uint64{0, 1, 255, 256, 1 << 32, 1<<63 - 1, 1 << 63, math.MaxUint64, 7} {
		b.SetTime(now)
		h.time = now
		for range 2 {
			if v, ok := b.Read(timeAt, 8); v != now || !ok {
				t.Errorf("P7.1: the time is %#x, %t, want %#x", v, ok, now)
			}
		}
		for _, v := range []uint64{0, now, now + 1, math.MaxUint64} {
			if b.Write(timeAt, 8, v) {
				t.Errorf("P7.1: Write(TimerAt, 8, %#x) is told as done", v)
			}
		}
		mustHold(t, "P7.1: the time, set, read and not written", b, h)
	}
}

func TestAlarm(t *testing.T) {
	b, h := full(t)
	for _, at := range []uint64{0, 1, 255, 0x0123456789abcdef, 1 << 63, math.MaxUint64, 9} {
		mustWrite(t, b, alarmAt, 8, at)
		h.alarm = at
		for range 2 {
			if v, ok := b.Read(alarmAt, 8); v != at || !ok {
				t.Errorf("P7.1: the alarm is %#x, %t, want %#x", v, ok, at)
			}
		}
		mustHold(t, "P7.1: the alarm, written and read", b, h)
	}
}

func TestTimer(t *testing.T) {
	b := bus.New(nil)
	for _, c := range []struct {
		time, alarm uint64
		want        bool
	}{
		{99, 100, false},
		{100, 100, true},
		{101, 100, true},
		{0, 0, true},
		{1, 0, true},
		{math.MaxUint64, 0, true},
		{0, 1, false},
		{0, math.MaxUint64, false},
		{math.MaxUint64 - 1, math.MaxUint64, false},
		{math.MaxUint64, math.MaxUint64, true},
		{math.MaxUint64, math.MaxUint64 - 1, true},
		{1<<63 - 1, 1 << 63, false},
		{1 << 63, 1<<63 - 1, true},
		{1 << 63, 1 << 63, true},
	} {
		b.SetTime(c.time)
		mustWrite(t, b, alarmAt, 8, c.alarm)
		for range 2 {
			if got := b.Timer(); got != c.want {
				t.Errorf("P7.1: Timer at %#x, the alarm at %#x = %t", c.time, c.alarm, got)
			}
		}
	}
}

func TestIsDevice(t *testing.T) {
	b := bus.New(nil)
	for at := uint64(timeAt); at < 0xf500; at++ {
		if !b.IsDevice(at) {
			t.Fatalf("P7.1: IsDevice(%#x) = false", at)
		}
	}
	for _, at := range []uint64{
		0, 1, 255, 0x7fff, 0x8000, 0xe000, timeAt - 8, timeAt - 1, 0xf500, 0xf501, 0xf600, 0xffff, 0x10000,
		0x1f000, 1<<32 + timeAt, 1 << 63, 1<<63 + timeAt, math.MaxUint64 - 1, math.MaxUint64,
	} {
		if b.IsDevice(at) {
			t.Errorf("P7.1: IsDevice(%#x) = true", at)
		}
	}
}

func TestPortsAreAtTheirPlaces(t *testing.T) {
	for p, at := range portsAt {
		b := bus.New(nil)
		b.Type(p, "x")
		if v, ok := b.Read(at, 1); v != 'x' || !ok {
			t.Errorf("P7.1: port %d: Read(%#x, 1) = %#x, %t", p, at, v, ok)
		}
		mustWrite(t, b, at, 1, 'y')
		want := fresh()
		want.room[p] = 63
		want.output[p] = "y"
		mustHold(t, "P7.1: a port that was read and written", b, want)
	}
}

func TestPortsDontKnowOneAnother(t *testing.T) {
	b, h := full(t)
	for p, at := range portsAt {
		if v, ok := b.Read(at, 1); v != uint64(h.input[p][0]) || !ok {
			t.Errorf("P7.1: port %d: Read = %#x, %t, want %q", p, v, ok, h.input[p][0])
		}
		h.input[p] = h.input[p][1:]
		mustHold(t, "P7.1: after one port was read", b, h)
		mustWrite(t, b, at, 1, uint64('0'+p))
		h.output[p] += string(rune('0' + p))
		mustHold(t, "P7.1: after one port was written", b, h)
		b.Type(p, "more")
		h.input[p] += "more"
		h.room[p] -= 4
		mustHold(t, "P7.1: after one port was typed at", b, h)
	}
}

func TestInputComesOnceInOrder(t *testing.T) {
	b := bus.New(nil)
	const in = "in \x00 order\xff\x80\xc3\xa9\n"
	b.Type(2, in)
	for i := range len(in) {
		if v, ok := b.Read(portsAt[2], 1); v != uint64(in[i]) || !ok {
			t.Errorf("P7.1: byte %d of the input is %#x, %t, want %#x", i, v, ok, in[i])
		}
	}
	for range 3 {
		if v, ok := b.Read(portsAt[2], 1); v != 0 || !ok {
			t.Errorf("P7.1: behind the input: %#x, %t, want 0, true", v, ok)
		}
	}
	b.Type(2, "again")
	if got := drained(t, b, 2); got != "again" {
		t.Errorf("P7.1: input behind what was all read is %q", got)
	}
}

func TestEachByteIsItself(t *testing.T) {
	for first := 0; first < 256; first += 64 {
		b := bus.New(nil)
		var in []byte
		for i := range 64 {
			in = append(in, byte(first+i))
		}
		b.Type(1, string(in))
		for _, c := range in {
			if v, ok := b.Read(portsAt[1], 1); v != uint64(c) || !ok {
				t.Errorf("P7.1: input %#x is read as %#x, %t", c, v, ok)
			}
			mustWrite(t, b, portsAt[1], 1, uint64(c))
		}
		if got := b.Output(1); got != string(in) {
			t.Errorf("P7.1: output is %q, want %q", got, in)
		}
	}
}

// long: n bytes, of which those that are less than 64 apart are unlike and none is nought.
func long(n int) string {
	var out []byte
	for i := range n {
		out = append(out, byte(1+i%255))
	}
	return string(out)
}

func TestInputCountsToItsLimit(t *testing.T) {
	for _, c := range []struct {
		what   string
		pieces []int
	}{
		{"nothing", []int{}},
		{"the empty text", []int{0}},
		{"one byte", []int{1}},
		{"pieces", []int{2, 0, 3, 1}},
		{"one below the limit", []int{63}},
		{"the limit", []int{64}},
		{"one more", []int{65}},
		{"one more, by itself", []int{64, 1}},
		{"the limit in pieces", []int{60, 4}},
		{"one more in pieces", []int{60, 5}},
		{"one more in two pieces behind", []int{63, 1, 1}},
		{"the limit byte by byte and more", []int{30, 30, 1, 1, 1, 1, 1, 1}},
		{"far more", []int{100000}},
		{"far more, and again", []int{200, 200}},
	} {
		b := bus.New(nil)
		all := 0
		for _, n := range c.pieces {
			b.Type(3, long(all + n)[all:])
			all += n
		}
		if got, want := drained(t, b, 3), long(min(all, 64)); got != want {
			t.Errorf("P7.1: %s: input is %q, want %q", c.what, got, want)
		}
	}
}

func TestInputCountsWhatWasRead(t *testing.T) {
	for _, read := range []int{1, 2, 31, 59, 60} {
		b := bus.New(nil)
		all := long(100)
		b.Type(0, all[:60])
		for i := range read {
			if v := mustRead(t, b, portsAt[0], 1); v != uint64(all[i]) {
				t.Fatalf("P7.1: byte %d of the input is %#x", i, v)
			}
		}
		b.Type(0, all[60:63])
		b.Type(0, all[63:70])
		if got := drained(t, b, 0); got != all[read:64] {
			t.Errorf("P7.1: behind %d bytes read the input is %q, want %q", read, got, all[read:64])
		}
		for range 3 {
			b.Type(0, "z")
			if v, ok := b.Read(portsAt[0], 1); v != 0 || !ok {
				t.Errorf("P7.1: typed behind the limit, all read: %#x, %t, want 0, true", v, ok)
			}
		}
		b.Type(1, "z")
		if v, ok := b.Read(portsAt[1], 1); v != 'z' || !ok {
			t.Errorf("P7.1: another port has its own limit: %#x, %t", v, ok)
		}
	}
}

func TestReadsWithoutInputDontCountAsTyped(t *testing.T) {
	b := bus.New(nil)
	for range 100 {
		mustRead(t, b, portsAt[0], 1)
	}
	b.Type(0, long(65))
	if got := drained(t, b, 0); got != long(64) {
		t.Errorf("P7.1: input behind reads of nothing is %q", got)
	}
}

func TestOutputKeepsTheLast(t *testing.T) {
	b := bus.New(nil)
	all := long(300)
	for i := range len(all) {
		if want := all[max(0, i-64):i]; b.Output(1) != want {
			t.Fatalf("P7.1: output of %d bytes is %q, want %q", i, b.Output(1), want)
		}
		mustWrite(t, b, portsAt[1], 1, uint64(all[i]))
	}
	want := fresh()
	want.output[1] = all[236:]
	mustHold(t, "P7.1: after much output", b, want)
}

func TestOutputIsTheLowestByte(t *testing.T) {
	for _, v := range []uint64{0, 1, 0xff, 0x100, 0x141, 0x1ff, 0x8000, 0x1_0000_0042, 1 << 63, math.MaxUint64} {
		b := bus.New(nil)
		mustWrite(t, b, portsAt[0], 1, v)
		if got, want := b.Output(0), string([]byte{byte(v % 256)}); got != want {
			t.Errorf("P7.1: %#x is put out as %q, want %q", v, got, want)
		}
	}
}

func TestOutputStaysAsItWas(t *testing.T) {
	b := bus.New(nil)
	var told []string
	for i := range 130 {
		told = append(told, b.Output(2))
		mustWrite(t, b, portsAt[2], 1, uint64(1+i))
	}
	for i, got := range told {
		if want := long(i)[max(0, i-64):]; got != want {
			t.Errorf("P7.1: what Output told behind %d bytes is %q now, want %q", i, got, want)
		}
	}
}

func TestStrangePorts(t *testing.T) {
	b, h := full(t)
	for _, p := range strangers {
		b.Type(p, "nobody's")
		if got := b.Output(p); got != "" {
			t.Errorf("P7.2: Output(%d) = %q", p, got)
		}
	}
	mustHold(t, "P7.2: after typing at no port", b, h)
}

// turned changes all that a bus holds, and tells what it holds then, if it held h.
func turned(t *testing.T, b *bus.Bus, h held, by byte) held {
	t.Helper()
	h.time += uint64(by)
	b.SetTime(h.time)
	h.alarm -= uint64(by)
	mustWrite(t, b, alarmAt, 8, h.alarm)
	for p, at := range portsAt {
		mustRead(t, b, at, 1)
		b.Type(p, string([]byte{by, by}))
		h.input[p] = h.input[p][1:] + string([]byte{by, by})
		h.room[p] -= 2
		mustWrite(t, b, at, 1, uint64(by))
		h.output[p] += string([]byte{by})
	}
	mustWrite(t, b, 512, 1, uint64(by))
	b.Mem().Write(32767, 1, uint64(by))
	h.memory = h.memory[:512] + string([]byte{by}) + h.memory[513:32767] + string([]byte{by})
	return h
}

func TestCopy(t *testing.T) {
	b, h := full(t)
	c := b.Copy()
	if c == nil || c == b || c.Mem() == b.Mem() {
		t.Fatal("P7.1: a copy is another bus with another memory")
	}
	mustHold(t, "P7.1: a copy", c, h)
	own := turned(t, b, h, 'b')
	mustHold(t, "P7.1: a copy when its original was changed", c, h)
	mustHold(t, "P7.1: the original that was changed", b, own)
	other := turned(t, c, h, 'c')
	mustHold(t, "P7.1: the original when its copy was changed", b, own)
	mustHold(t, "P7.1: the copy that was changed", c, other)
	d := c.Copy()
	turned(t, c, other, 'd')
	mustHold(t, "P7.1: a copy's copy", d, other)
}

func TestCopyTimer(t *testing.T) {
	b := bus.New(nil)
	b.SetTime(5)
	mustWrite(t, b, alarmAt, 8, 5)
	c := b.Copy()
	b.SetTime(4)
	if !c.Timer() || b.Timer() {
		t.Errorf("P7.1: Timer of a copy, of the original: %t, %t", c.Timer(), b.Timer())
	}
}

func TestCopyOfWhatIsFull(t *testing.T) {
	b := bus.New(nil)
	all := long(200)
	b.Type(0, all)
	for i := range len(all) {
		mustWrite(t, b, portsAt[0], 1, uint64(all[i]))
	}
	c := b.Copy()
	mustWrite(t, c, portsAt[0], 1, 'z')
	c.Type(0, "z")
	if got, want := c.Output(0), all[137:]+"z"; got != want {
		t.Errorf("P7.1: a copy's output is %q, want %q", got, want)
	}
	if got := drained(t, c, 0); got != all[:64] {
		t.Errorf("P7.1: a copy's input is %q, want %q", got, all[:64])
	}
	if b.Output(0) != all[136:] || drained(t, b, 0) != all[:64] {
		t.Error("P7.1: the original changed with its copy")
	}
}

func TestReadsAreCounted(t *testing.T) {
	b := bus.New(nil)
	if b.Reads() != 0 {
		t.Errorf("Ways: a new bus counts %d reads", b.Reads())
	}
	for _, at := range []uint64{timeAt, alarmAt, 0} {
		mustRead(t, b, at, 8)
	}
	for _, at := range portsAt {
		mustRead(t, b, at, 1)
	}
	b.Read(0x8000, 1)
	b.Read(timeAt, 4)
	b.Read(5, 2)
	mustWrite(t, b, 0, 8, 1)
	if b.Reads() != 7 {
		t.Errorf("Ways: 7 reads that told something are counted as %d", b.Reads())
	}
	c := b.Copy()
	mustRead(t, c, 0, 8)
	if b.Reads() != 7 || c.Reads() != 8 {
		t.Errorf("Ways: a copy goes on by itself: %d, %d", b.Reads(), c.Reads())
	}
}

func TestReadsAreCountedForAnybody(t *testing.T) {
	const many, each = 8, 5000
	b := bus.New(nil)
	mustWrite(t, b, 64, 8, 0x1234)
	var all sync.WaitGroup
	for range many {
		all.Go(func() {
			last := uint64(0)
			for range each {
				if v, ok := b.Read(64, 8); v != 0x1234 || !ok {
					t.Errorf("P7.1: Read beside others = %#x, %t", v, ok)
				}
				now := b.Reads()
				if now <= last {
					t.Errorf("Ways: the count went from %d to %d", last, now)
				}
				last = now
			}
		})
	}
	all.Wait()
	if b.Reads() != many*each {
		t.Errorf("Ways: %d reads are counted as %d", many*each, b.Reads())
	}
}
