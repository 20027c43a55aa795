package tlb_test

import (
	"math"
	"slices"
	"testing"

	"sallyport/api"
	"sallyport/tlb"
)

// size: as the document's number says it.
const size = 16

// places: what stands in each place of a TLB; where none does, the zero entry.
type places [size]api.Entry

// oddNumbers: below 0, beyond what a page or a mark can be, such as would be others if only some of their bits counted.
var oddNumbers = []int{
	math.MinInt, math.MinInt + 1, -1 << 32, -65536, -256, -255, -2, -1, 0, 1, 2, 127, 128,
	255, 256, 257, 65535, 65536, 1<<32 - 1, 1 << 32, 1<<32 + 1, 1 << 62, math.MaxInt - 1, math.MaxInt,
}

// picked: picks, and the places that they tell.
var picked = []struct{ pick, place int }{
	{0, 0}, {1, 1}, {7, 7}, {8, 8}, {14, 14}, {15, 15}, {16, 0}, {17, 1}, {31, 15}, {32, 0}, {255, 15}, {256, 0},
	{-1, 15}, {-2, 14}, {-8, 8}, {-15, 1}, {-16, 0}, {-17, 15}, {-31, 1}, {-32, 0}, {-33, 15},
	{1 << 32, 0}, {1<<32 + 5, 5}, {-1 << 32, 0}, {-1<<32 - 3, 13}, {1<<62 + 9, 9},
	{math.MinInt, 0}, {math.MinInt + 1, 1}, {math.MinInt + 15, 15}, {math.MaxInt, 15}, {math.MaxInt - 1, 14}, {math.MaxInt - 15, 0},
}

// entry: no number of one is in another.
func entry(n int) api.Entry {
	return api.Entry{Valid: true, V: n%2 == 1, Page: n, Asid: 1000 + n, Vmid: 2000 + n, Frame: 3000 + n, Bits: 4000 + n, Host: 5000 + n, Guest: 6000 + n}
}

// refilled: e's page and marks with other contents.
func refilled(e api.Entry) api.Entry {
	e.Frame, e.Bits, e.Host, e.Guest = e.Frame+7, e.Bits^255, e.Host-9, -e.Guest
	return e
}

// changes: of one field alone each.
func changes(e api.Entry) map[string]api.Entry {
	out := map[string]api.Entry{}
	numbers := map[string]func(*api.Entry) *int{
		"Page":  func(e *api.Entry) *int { return &e.Page },
		"Asid":  func(e *api.Entry) *int { return &e.Asid },
		"Vmid":  func(e *api.Entry) *int { return &e.Vmid },
		"Frame": func(e *api.Entry) *int { return &e.Frame },
		"Bits":  func(e *api.Entry) *int { return &e.Bits },
		"Host":  func(e *api.Entry) *int { return &e.Host },
		"Guest": func(e *api.Entry) *int { return &e.Guest },
	}
	for what, field := range numbers {
		for how, by := range map[string]int{"+1": 1, "-1": -1, "+256": 256, "+2^16": 1 << 16, "+2^32": 1 << 32, "+2^63": math.MinInt} {
			o := e
			*field(&o) += by
			out[what+how] = o
		}
	}
	o := e
	o.V = !o.V
	out["V"] = o
	o = e
	o.Valid = false
	out["Valid"] = o
	return out
}

// finders: the fields by which Look finds, as changes calls them.
var finders = []string{"V", "Page", "Asid", "Vmid"}

func isFinder(change string) bool {
	return change != "Valid" && slices.ContainsFunc(finders, func(f string) bool {
		return len(change) >= len(f) && change[:len(f)] == f
	})
}

func look(x *tlb.TLB, e api.Entry) (api.Entry, bool) { return x.Look(e.Page, e.V, e.Asid, e.Vmid) }

func mustLook(t *testing.T, what string, x *tlb.TLB, e api.Entry) {
	t.Helper()
	if got, ok := look(x, e); got != e || !ok {
		t.Errorf("P13.1: %s: Look of %+v = %+v, %t", what, e, got, ok)
	}
}

func mustMiss(t *testing.T, what string, x *tlb.TLB, e api.Entry) {
	t.Helper()
	if got, ok := look(x, e); got != (api.Entry{}) || ok {
		t.Errorf("P13.1: %s: Look of %+v = %+v, %t, want none", what, e, got, ok)
	}
}

// fillersMark: a mark that no other entry has.
const fillersMark = 1<<51 + 1

// filler: stands in a place that was free, when it is to be told which ones those are.
func filler(i int) api.Entry {
	return api.Entry{Valid: true, Page: 1<<50 + i, Asid: fillersMark, Vmid: fillersMark}
}

// told: x's places, by a copy whose free ones are filled.
func told(t *testing.T, what string, x *tlb.TLB) places {
	t.Helper()
	c := x.Copy()
	for i := range size - len(x.All()) {
		c.Fill(filler(i), 3)
	}
	all := c.All()
	if len(all) != size {
		t.Fatalf("P13.1: %s: there are %d when all free places are filled: %+v", what, len(all), all)
	}
	out, free := places(all), 0
	for i, e := range out {
		if e.Vmid != fillersMark {
			continue
		}
		if e != filler(free) {
			t.Fatalf("P13.1: %s: place %d isn't filled in its turn: %+v", what, i, e)
		}
		out[i] = api.Entry{}
		free++
	}
	return out
}

func held(p places) []api.Entry {
	return slices.DeleteFunc(slices.Clone(p[:]), func(e api.Entry) bool { return !e.Valid })
}

// mustHold: All, Look of each, and the places themselves.
func mustHold(t *testing.T, what string, x *tlb.TLB, want places) {
	t.Helper()
	if got := x.All(); !slices.Equal(got, held(want)) {
		t.Fatalf("P13.1: %s: All() =\n%+v, want\n%+v", what, got, held(want))
	}
	if got := told(t, what, x); got != want {
		t.Fatalf("P13.1: %s: its places hold\n%+v, want\n%+v", what, got, want)
	}
	if got := x.All(); !slices.Equal(got, held(want)) {
		t.Fatalf("P13.1: %s: a copy that was filled changed it: All() =\n%+v, want\n%+v", what, got, held(want))
	}
	for _, e := range held(want) {
		mustLook(t, what, x, e)
	}
}

// with: a TLB with entry(1) to entry(16) in its places, but in those of free.
func with(t *testing.T, free ...int) (*tlb.TLB, places) {
	t.Helper()
	x := tlb.New()
	var p places
	for i := range size {
		p[i] = entry(i + 1)
		x.Fill(p[i], 5)
	}
	for _, i := range free {
		if !x.Drop(p[i]) {
			t.Fatalf("P13.1: Drop of %+v in place %d tells false", p[i], i)
		}
		p[i] = api.Entry{}
	}
	return x, p
}

// holes: sets of free places: none, some, all.
func holes() [][]int {
	all := make([]int, size)
	for i := range all {
		all[i] = i
	}
	return [][]int{nil, {0}, {15}, {7}, {0, 15}, {3, 4, 9}, {1, 2, 3, 5, 8, 13}, all[1:], all[:15], slices.Delete(slices.Clone(all), 6, 7), all}
}

func TestNew(t *testing.T) {
	x := tlb.New()
	if x == nil {
		t.Fatal("P13.1: New() is nil")
	}
	mustHold(t, "a new one", x, places{})
	mustMiss(t, "a new one", x, api.Entry{})
	for _, n := range oddNumbers {
		mustMiss(t, "a new one", x, api.Entry{Page: n})
		mustMiss(t, "a new one", x, api.Entry{V: true, Page: n, Asid: n, Vmid: n})
	}
	if x.Drop(api.Entry{}) || x.Drop(api.Entry{Valid: true}) || x.Flush() != 0 {
		t.Error("P13.1: something goes of a new one")
	}
	o := tlb.New()
	o.Fill(entry(1), 0)
	mustHold(t, "a new one beside one that was filled", x, places{})
	mustHold(t, "a new one after one was filled", tlb.New(), places{})
}

func TestRoom(t *testing.T) {
	if api.TLBSize != size {
		t.Fatalf("P13.1: TLBSize is %d", api.TLBSize)
	}
	for _, at := range picked {
		x := tlb.New()
		var p places
		for i := range size {
			p[i] = entry(i + 1)
			x.Fill(p[i], at.pick)
			mustHold(t, "filled one after the other", x, p)
		}
	}
}

func TestLook(t *testing.T) {
	for _, free := range holes() {
		x, p := with(t, free...)
		for i, e := range p {
			if !e.Valid {
				mustMiss(t, "of a place that is free", x, entry(i+1))
				continue
			}
			mustLook(t, "of one that is there", x, e)
			for what, o := range changes(e) {
				if isFinder(what) {
					mustMiss(t, "with another "+what, x, o)
				}
			}
		}
		mustHold(t, "after Look", x, p)
	}
}

// TestLookOfTheZeroPage: page 0 without marks is told apart from a free place.
func TestLookOfTheZeroPage(t *testing.T) {
	x := tlb.New()
	e := api.Entry{Valid: true}
	mustMiss(t, "before it is there", x, e)
	x.Fill(e, 0)
	mustHold(t, "page 0 without marks", x, places{e})
	if !x.Drop(e) {
		t.Error("P13.1: Drop of page 0 without marks tells false")
	}
	mustMiss(t, "after it went", x, e)
	mustHold(t, "after it went", x, places{})
}

// TestOddNumbers: each of them is another page, another mark.
func TestOddNumbers(t *testing.T) {
	fields := map[string]func(n int) api.Entry{
		"Page": func(n int) api.Entry { return api.Entry{Valid: true, Page: n, Asid: 1, Vmid: 2, Frame: n} },
		"Asid": func(n int) api.Entry { return api.Entry{Valid: true, Page: 3, Asid: n, Vmid: 4, Bits: n} },
		"Vmid": func(n int) api.Entry { return api.Entry{Valid: true, Page: 5, Asid: 6, Vmid: n, Host: n, Guest: n} },
	}
	for what, of := range fields {
		for begin := 0; begin+size <= len(oddNumbers); begin++ {
			x := tlb.New()
			var p places
			for i := range size {
				p[i] = of(oddNumbers[begin+i])
				x.Fill(p[i], 0)
			}
			mustHold(t, what+" of odd numbers", x, p)
			for i, n := range oddNumbers {
				if i < begin || begin+size <= i {
					mustMiss(t, what+" of a number that isn't there", x, of(n))
				}
			}
			for _, e := range p {
				if !x.Drop(e) {
					t.Errorf("P13.1: Drop of %+v tells false", e)
				}
			}
			mustHold(t, what+" of odd numbers, all dropped", x, places{})
		}
	}
}

func TestFillOfWhatIsNotValid(t *testing.T) {
	for _, free := range holes() {
		x, p := with(t, free...)
		for _, at := range picked {
			x.Fill(api.Entry{}, at.pick)
			for i := range size + 2 {
				e := entry(i)
				e.Valid = false
				x.Fill(e, at.pick)
				x.Fill(api.Entry{V: e.V, Page: e.Page, Asid: e.Asid, Vmid: e.Vmid}, at.pick)
				mustMiss(t, "of what wasn't Valid", x, api.Entry{Page: e.Page})
			}
		}
		mustMiss(t, "of what wasn't Valid", x, api.Entry{})
		mustMiss(t, "of what wasn't Valid", x, entry(0))
		mustHold(t, "after Fill of what isn't Valid", x, p)
	}
}

func TestFillOfOneThatIsThere(t *testing.T) {
	for _, free := range holes() {
		for i := range size {
			x, p := with(t, free...)
			if !p[i].Valid {
				continue
			}
			for what, o := range changes(p[i]) {
				if what == "Valid" || isFinder(what) {
					continue
				}
				x.Fill(o, i+1)
				p[i] = o
				mustHold(t, "filled again with another "+what, x, p)
			}
			for _, at := range picked {
				p[i] = refilled(p[i])
				x.Fill(p[i], at.pick)
				mustHold(t, "filled again with other contents", x, p)
				x.Fill(p[i], at.pick)
				mustHold(t, "filled again with the same", x, p)
			}
		}
	}
}

func TestFillOfAFreePlace(t *testing.T) {
	for _, free := range holes() {
		for _, at := range picked {
			x, p := with(t, free...)
			for n, i := range free {
				p[i] = entry(100 + n)
				x.Fill(p[i], at.pick)
				mustHold(t, "filled in a free place", x, p)
			}
		}
	}
}

// TestFillBehindAnyDrops: the first free place, whichever are free.
func TestFillBehindAnyDrops(t *testing.T) {
	for set := 0; set < 1<<size; set += 37 {
		var free []int
		for i := range size {
			if set>>i&1 == 1 {
				free = append(free, i)
			}
		}
		x, p := with(t, free...)
		to := set % size
		if len(free) > 0 {
			to = free[0]
		}
		p[to] = entry(100)
		x.Fill(p[to], set)
		mustHold(t, "filled with some places free", x, p)
	}
}

func TestFillOfAFullOne(t *testing.T) {
	for _, at := range picked {
		x, p := with(t)
		gone := p[at.place]
		p[at.place] = entry(100)
		x.Fill(p[at.place], at.pick)
		mustHold(t, "filled with all places taken", x, p)
		mustMiss(t, "of the one that was picked", x, gone)
		back := gone
		p[(at.place+1)%size] = back
		x.Fill(back, (at.place+1)%size)
		mustHold(t, "the picked one filled again", x, p)
	}
}

// TestFillOfAlmostTheSame: where one of the fields by which Look finds is another, it is another entry.
func TestFillOfAlmostTheSame(t *testing.T) {
	for what, o := range changes(entry(6)) {
		if !isFinder(what) {
			continue
		}
		x, p := with(t)
		p[11] = o
		x.Fill(o, 11)
		mustHold(t, "all taken, filled with another "+what, x, p)
		x, p = with(t, 9, 12)
		p[9] = o
		x.Fill(o, 11)
		mustHold(t, "some free, filled with another "+what, x, p)
	}
}

func TestAll(t *testing.T) {
	if got := tlb.New().All(); len(got) != 0 {
		t.Errorf("P13.1: All() of a new one = %+v", got)
	}
	for _, free := range holes() {
		x, p := with(t, free...)
		first, second := x.All(), x.All()
		if !slices.Equal(first, held(p)) || !slices.Equal(second, held(p)) {
			t.Fatalf("P13.1: All() = %+v, then %+v, want %+v", first, second, held(p))
		}
		first = first[:cap(first)]
		for i := range first {
			first[i] = entry(200 + i)
		}
		if !slices.Equal(second, held(p)) {
			t.Errorf("P13.1: one answer of All was changed, and another with it: %+v", second)
		}
		mustHold(t, "after what All answered was changed", x, p)
		third := x.All()
		_ = append(third[:0], slices.Repeat([]api.Entry{entry(300)}, size)...)
		mustHold(t, "after more was put behind what All answered", x, p)
		last := x.All()
		x.Fill(entry(400), 4)
		x.Flush()
		x.Fill(entry(401), 4)
		if !slices.Equal(last, held(p)) {
			t.Errorf("P13.1: an answer of All changed with the TLB: %+v", last)
		}
	}
}

func TestDrop(t *testing.T) {
	for _, free := range holes() {
		for i := range size {
			x, p := with(t, free...)
			e := p[i]
			if !e.Valid {
				continue
			}
			if !x.Drop(e) {
				t.Errorf("P13.1: Drop of place %d tells false", i)
			}
			p[i] = api.Entry{}
			mustMiss(t, "of one that was dropped", x, e)
			mustHold(t, "after Drop", x, p)
			if x.Drop(e) {
				t.Errorf("P13.1: the second Drop of place %d tells true", i)
			}
			mustHold(t, "after a second Drop", x, p)
			x.Fill(e, 0)
			if !x.Drop(e) {
				t.Errorf("P13.1: Drop of what was filled again tells false")
			}
			mustHold(t, "after Drop of what was filled again", x, p)
		}
	}
}

func TestDropOfWhatIsNotThere(t *testing.T) {
	for _, free := range holes() {
		x, p := with(t, free...)
		for i := range size {
			for what, o := range changes(entry(i + 1)) {
				if x.Drop(o) {
					t.Errorf("P13.1: Drop of one with another %s tells true", what)
				}
			}
			if x.Drop(api.Entry{Valid: true, Page: entry(i + 1).Page}) {
				t.Error("P13.1: Drop of another one of a page tells true")
			}
		}
		for _, o := range []api.Entry{{}, {Valid: true}, {V: true}, entry(0), entry(17), filler(0)} {
			if x.Drop(o) {
				t.Errorf("P13.1: Drop of %+v tells true", o)
			}
		}
		mustHold(t, "after Drop of what isn't there", x, p)
	}
}

// TestDropOfOldContents: what stood in a place before isn't there any more.
func TestDropOfOldContents(t *testing.T) {
	x, p := with(t, 2)
	old := p[8]
	p[8] = refilled(old)
	x.Fill(p[8], 0)
	if x.Drop(old) {
		t.Error("P13.1: Drop of what stood there before tells true")
	}
	mustHold(t, "after Drop of what stood there before", x, p)
}

func TestFlush(t *testing.T) {
	for _, free := range holes() {
		x, p := with(t, free...)
		if got, want := x.Flush(), size-len(free); got != want {
			t.Errorf("P13.1: Flush() = %d, want %d", got, want)
		}
		for _, e := range held(p) {
			mustMiss(t, "after Flush", x, e)
			if x.Drop(e) {
				t.Error("P13.1: Drop after Flush tells true")
			}
		}
		mustHold(t, "after Flush", x, places{})
		if got := x.Flush(); got != 0 {
			t.Errorf("P13.1: the second Flush() = %d", got)
		}
		mustHold(t, "after a second Flush", x, places{})
		x.Fill(entry(50), 9)
		x.Fill(entry(51), 9)
		mustHold(t, "filled after Flush", x, places{entry(50), entry(51)})
		if got := x.Flush(); got != 2 {
			t.Errorf("P13.1: Flush() of two = %d", got)
		}
	}
}

func TestCopy(t *testing.T) {
	acts := map[string]func(x *tlb.TLB, p places) places{
		"Flush": func(x *tlb.TLB, p places) places {
			x.Flush()
			return places{}
		},
		"Drop": func(x *tlb.TLB, p places) places {
			for _, e := range held(p) {
				x.Drop(e)
			}
			return places{}
		},
		"Fill of those that are there": func(x *tlb.TLB, p places) places {
			for i, e := range p {
				if e.Valid {
					p[i] = refilled(e)
					x.Fill(p[i], 0)
				}
			}
			return p
		},
		"Fill of others": func(x *tlb.TLB, p places) places {
			x.Flush()
			for i := range p {
				p[i] = entry(500 + i)
				x.Fill(p[i], 0)
			}
			return p
		},
	}
	for _, free := range holes() {
		for what, act := range acts {
			x, p := with(t, free...)
			c := x.Copy()
			if c == nil || c == x {
				t.Fatal("P13.1: Copy() isn't another one")
			}
			mustHold(t, "a copy", c, p)
			q := act(c, p)
			mustHold(t, "a copy after "+what, c, q)
			mustHold(t, "the first after its copy's "+what, x, p)
			c = x.Copy().Copy()
			q = act(x, p)
			mustHold(t, "the first after "+what, x, q)
			mustHold(t, "a copy's copy after the first's "+what, c, p)
		}
	}
}

// TestUnlikeMarks: entries of one page, a guest's and not, side by side.
func TestUnlikeMarks(t *testing.T) {
	var p places
	for i := range size {
		p[i] = api.Entry{Valid: true, V: i&1 == 1, Page: 0x42, Asid: i >> 1 & 1, Vmid: i >> 2, Frame: 10 + i, Bits: 255, Host: 0xcf}
	}
	begun := tlb.New()
	for _, e := range p {
		begun.Fill(e, 0)
	}
	mustHold(t, "one page under unlike marks", begun, p)
	for i, e := range p {
		x, q := begun.Copy(), p
		q[i] = refilled(e)
		x.Fill(q[i], 0)
		mustHold(t, "one of them filled again", x, q)
		if !x.Drop(q[i]) {
			t.Errorf("P13.1: Drop of %+v tells false", q[i])
		}
		q[i] = api.Entry{}
		mustMiss(t, "the one that was dropped", x, e)
		mustHold(t, "one of them dropped", x, q)
	}
	o := api.Entry{Valid: true, Page: 0x43, Asid: 1, Vmid: 3}
	begun.Fill(o, 4)
	p[4] = o
	mustHold(t, "another page under the same marks", begun, p)
}
