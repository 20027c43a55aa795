package tlb_test

import (
	"math"
	"testing"

	"sallyport/api"
	"sallyport/tlb"
)

// mixed: numbers that differ in all their bytes, by a rule.
func mixed(n int) uint64 {
	v := uint64(n+1) * 0x9e3779b97f4a7c15
	v ^= v >> 29
	v *= 0xbf58476d1ce4e5b9
	return v ^ v>>32
}

// key: of what there is never more than one.
type key struct {
	v                bool
	page, asid, vmid int
}

func keyOf(e api.Entry) key { return key{e.V, e.Page, e.Asid, e.Vmid} }

// model: which entry a key has, and in which place it stands.
type model struct {
	entries map[key]api.Entry
	places  map[key]int
}

func newModel() *model { return &model{map[key]api.Entry{}, map[key]int{}} }

func (m *model) owner(place int) (key, bool) {
	for k, p := range m.places {
		if p == place {
			return k, true
		}
	}
	return key{}, false
}

func (m *model) forget(k key) {
	delete(m.entries, k)
	delete(m.places, k)
}

func (m *model) fill(e api.Entry, pick int) {
	if !e.Valid {
		return
	}
	k := keyOf(e)
	if _, ok := m.entries[k]; ok {
		m.entries[k] = e
		return
	}
	place := int(uint64(pick) & 15) // a number's lowest bits count on from a multiple of 16 below it, also below 0
	for p := range size {
		if _, taken := m.owner(p); !taken {
			place = p
			break
		}
	}
	if k, taken := m.owner(place); taken {
		m.forget(k)
	}
	m.entries[k], m.places[k] = e, place
}

func (m *model) drop(e api.Entry) bool {
	there, ok := m.entries[keyOf(e)]
	if !ok || there != e {
		return false
	}
	m.forget(keyOf(e))
	return true
}

func (m *model) flush() int {
	n := len(m.entries)
	*m = *newModel()
	return n
}

func (m *model) told() places {
	var p places
	for k, i := range m.places {
		p[i] = m.entries[k]
	}
	return p
}

// few, many: numbers for pages and marks: many of the same, and none of them.
func few(v uint64) int  { return int(v%5) - 1 }
func many(v uint64) int { return oddNumbers[v%uint64(len(oddNumbers))] }

// drawn: an entry by a rule; one in eight isn't Valid.
func drawn(v uint64, of func(uint64) int) api.Entry {
	return api.Entry{
		Valid: v&7 > 0, V: v>>3&1 == 1, Page: of(v >> 4), Asid: of(v >> 10 & 1), Vmid: of(v >> 12 & 1),
		Frame: int(v >> 20 & 3), Bits: int(v>>24&1) * 255, Host: int(v >> 26 & 1), Guest: int(v>>28&1) - 1,
	}
}

func drawnPick(v uint64) int {
	if v&1 == 0 {
		return int(v>>1%64) - 32
	}
	return []int{math.MinInt, math.MaxInt, int(v), -int(v >> 1)}[v>>1&3]
}

// play: rows of Fill, Drop, Flush; behind each one check is asked, and whether it told what the model tells.
func play(run int, of func(uint64) int, check func(x *tlb.TLB, m *model, same bool)) {
	x, m := tlb.New(), newModel()
	for step := range 150 {
		v := mixed(run*1000 + step)
		e := drawn(mixed(int(v>>40)), of)
		switch v % 16 {
		case 0, 1, 2:
			if there, ok := m.entries[keyOf(e)]; ok && v>>8&1 == 0 {
				e = there
			}
			check(x, m, x.Drop(e) == m.drop(e))
		case 3:
			if v>>8&3 == 0 {
				check(x, m, x.Flush() == m.flush())
			}
		default:
			pick := drawnPick(v >> 4)
			x.Fill(e, pick)
			m.fill(e, pick)
			check(x, m, true)
		}
	}
}

func TestPlaysAgainstTheModel(t *testing.T) {
	for run := range 60 {
		for _, of := range []func(uint64) int{few, many} {
			play(run, of, func(x *tlb.TLB, m *model, same bool) {
				if !same {
					t.Fatalf("P13.1: Drop or Flush doesn't tell what the model tells: %+v", m.entries)
				}
				mustHold(t, "at play", x, m.told())
				for n := range 64 {
					e := drawn(mixed(n), of)
					if there, ok := m.entries[keyOf(e)]; ok {
						mustLook(t, "at play", x, there)
					} else {
						mustMiss(t, "at play", x, e)
					}
				}
			})
		}
	}
}

func TestNeverMoreThanOneForAPage(t *testing.T) {
	full := 0
	for run := range 200 {
		for _, of := range []func(uint64) int{few, many} {
			play(1000+run, of, func(x *tlb.TLB, _ *model, _ bool) {
				all := x.All()
				if len(all) > size {
					t.Fatalf("P13.2: there are %d", len(all))
				}
				if len(all) == size {
					full++
				}
				seen := map[key]api.Entry{}
				for _, e := range all {
					if o, ok := seen[keyOf(e)]; ok || !e.Valid {
						t.Fatalf("P13.2: %+v is there beside %+v", e, o)
					}
					seen[keyOf(e)] = e
				}
			})
		}
	}
	if full == 0 {
		t.Error("P13.2: at play no TLB was ever full")
	}
}
