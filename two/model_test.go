package two_test

import (
	"testing"

	"sallyport/api"
	"sallyport/mem"
	"sallyport/two"
)

// The model goes by division and by one step after the other, and asks no layer but memory.

const (
	on  = 1 << 63
	sum = 1 << 18
	mxr = 1 << 19
)

var kinds = []int{api.Fetch, api.Load, api.Store}

// noKinds: kinds that are none; no leaf lets them.
var noKinds = []int{-1 << 63, -256, -3, -2, -1, 3, 4, 5, 256, 257, 1 << 32, 1<<32 + 1, 1<<63 - 1}

// noLevels: each is as the supervisor.
var noLevels = []int{-1 << 63, -1<<63 + 1, -256, -253, -4, -3, -2, -1, 2, 4, 5, 7, 256, 257, 259, 1 << 32, 1<<32 + 1, 1<<32 + 3, 1<<63 - 2, 1<<63 - 1}

func has(v uint64, n int) bool { return v>>n%2 == 1 }

func part(v uint64, from int) int { return int(v >> from % 256) }

func modelAsk(s api.State, level int, v bool) api.Asking {
	var a api.Asking
	if level == 3 {
		return a
	}
	first, status := s.C[api.Satp], s.C[api.Mstatus]
	if v {
		first, status = s.C[api.Vsatp], s.C[api.Vsstatus]
		if h := s.C[api.Hgatp]; has(h, 63) {
			a.Second, a.Vmid, a.Host = true, part(h, 16), part(h, 0)
		}
	}
	if has(first, 63) {
		a.First, a.Asid, a.Root = true, part(first, 16), part(first, 0)
	}
	a.Sum, a.Mxr = has(status, 18), has(status, 19)
	if v && has(s.C[api.Mstatus], 19) {
		a.Mxr = true
	}
	return a
}

func modelMay(bits, kind int, user, sum, mxr bool) bool {
	is := func(n int) bool { return bits>>n%2 != 0 }
	mine := is(4) == user
	if sum && !user && kind != api.Fetch {
		mine = true
	}
	if !is(6) || !mine {
		return false
	}
	switch kind {
	case api.Fetch:
		return is(3)
	case api.Load:
		return is(1) || mxr && is(3)
	case api.Store:
		return is(2) && is(7)
	}
	return false
}

// modelEntry: what stands at a place, 0 of no memory.
func modelEntry(m *mem.Memory, place uint64) (uint64, bool) {
	if place >= api.MemSize {
		return 0, false
	}
	if m == nil {
		return 0, true
	}
	e, f := m.Read(place, 8)
	return e, f == api.OK
}

func modelIs(e uint64) bool {
	return e < 65536 && has(e, 0) && !has(e, 5) && (has(e, 1) || !has(e, 2))
}

func modelLeaf(e uint64) bool { return modelIs(e) && (has(e, 1) || has(e, 3)) }

// modelWalk: the frame and the bits that at's page has, by tables that lie at gives; else 1, 2 as the doc says, 3 and the place of lies' 1.
func modelWalk(m *mem.Memory, root int, at uint64, lies func(uint64) (uint64, int)) (frame, bits int, stopped uint64, code int) {
	high, low := at/4096, at/256%16
	read := func(frame int, index uint64) (uint64, uint64, int) {
		place := uint64(frame)*256 + index*8
		there, code := lies(place)
		if code == 1 {
			return 0, place, 3
		}
		e, ok := modelEntry(m, there)
		if code == 2 || !ok {
			return 0, 0, 2
		}
		return e, 0, 0
	}
	e, stopped, code := read(root, high)
	if code != 0 {
		return 0, 0, stopped, code
	}
	if modelLeaf(e) {
		if part(e, 8)%16 != 0 {
			return 0, 0, 0, 1
		}
		return part(e, 8) + int(low), part(e, 0), 0, 0
	}
	if !modelIs(e) {
		return 0, 0, 0, 1
	}
	e, stopped, code = read(part(e, 8), low)
	if code != 0 {
		return 0, 0, stopped, code
	}
	if !modelLeaf(e) {
		return 0, 0, 0, 1
	}
	return part(e, 8), part(e, 0), 0, 0
}

func itself(place uint64) (uint64, int) { return place, 0 }

// modelSecond: where a guest's place lies, the leaf's bits, and 0, 1, 2.
func modelSecond(m *mem.Memory, a api.Asking, place uint64, kind int) (uint64, int, int) {
	if place >= 65536 {
		return 0, 0, 1
	}
	if !a.Second {
		return place, 255, 0
	}
	frame, bits, _, code := modelWalk(m, a.Host, place, itself)
	if code == 0 && !modelMay(bits, kind, true, false, false) {
		code = 1
	}
	if code != 0 {
		return 0, 0, code
	}
	return uint64(frame)*256 + place%256, bits, 0
}

var (
	pageCauses   = [3]uint64{api.PageFetch, api.PageLoad, api.PageStore}
	guestCauses  = [3]uint64{api.GuestFetch, api.GuestLoad, api.GuestStore}
	accessCauses = [3]uint64{api.BadFetch, api.BadLoad, api.BadStore}
)

func modelFault(causes [3]uint64, kind int, at, place uint64, v bool) api.Fault {
	f := api.Fault{Value: at, GVA: v, Place: place / 4}
	if kind >= 0 && kind < 3 {
		f.Cause = causes[kind]
	}
	return f
}

type answer struct {
	lies uint64
	e    api.Entry
	f    api.Fault
	ok   bool
}

func modelTranslate(m *mem.Memory, s api.State, at uint64, kind, level int, v bool) answer {
	a := modelAsk(s, level, v)
	refused := func(causes [3]uint64, place uint64) answer {
		return answer{f: modelFault(causes, kind, at, place, v)}
	}
	e := api.Entry{Valid: true, V: v, Asid: a.Asid, Vmid: a.Vmid, Bits: 255, Host: 255}
	if at < 65536 {
		e.Page = int(at / 256)
	}
	switch {
	case !a.First && !a.Second:
		e.Frame, e.Guest = e.Page, e.Page
		return answer{lies: at, e: e, ok: true}
	case at >= 65536 && a.First:
		return refused(pageCauses, 0)
	case at >= 65536:
		return refused(guestCauses, at)
	}
	place := at
	if a.First {
		frame, bits, stopped, code := modelWalk(m, a.Root, at, func(p uint64) (uint64, int) {
			lies, _, code := modelSecond(m, a, p, api.Load)
			return lies, code
		})
		switch {
		case code == 3:
			return refused(guestCauses, stopped)
		case code == 2:
			return refused(accessCauses, 0)
		case code == 1 || !modelMay(bits, kind, level == 0, a.Sum, a.Mxr):
			return refused(pageCauses, 0)
		}
		place, e.Bits = uint64(frame)*256+at%256, bits
	}
	lies, host, code := modelSecond(m, a, place, kind)
	switch code {
	case 1:
		return refused(guestCauses, place)
	case 2:
		return refused(accessCauses, 0)
	}
	e.Host, e.Guest, e.Frame = host, int(place/256), int(lies/256)
	return answer{lies: lies, e: e, ok: true}
}

func modelAllowed(s api.State, e api.Entry, at uint64, kind, level int, v bool) (api.Fault, bool) {
	a := modelAsk(s, level, v)
	if e.Bits != 255 && !modelMay(e.Bits, kind, level == 0, a.Sum, a.Mxr) {
		return modelFault(pageCauses, kind, at, 0, v), false
	}
	if e.Host != 255 && !modelMay(e.Host, kind, true, false, false) {
		return modelFault(guestCauses, kind, at, uint64(e.Guest)*256+at%256, v), false
	}
	return api.Fault{}, true
}

func translate(m *mem.Memory, s api.State, at uint64, kind, level int, v bool) answer {
	lies, e, f, ok := two.Translate(m, s, at, kind, level, v)
	return answer{lies, e, f, ok}
}

// check holds Translate, and Guest of the same place, against the model.
func check(t *testing.T, what string, m *mem.Memory, s api.State, at uint64, kind, level int, v bool) answer {
	t.Helper()
	got, want := translate(m, s, at, kind, level, v), modelTranslate(m, s, at, kind, level, v)
	if got != want {
		t.Fatalf("P12.3, P12.4: %s: Translate(%#x, kind %d, level %d, %v) = %+v, want %+v", what, at, kind, level, v, got, want)
	}
	wantLies, _, wantCode := modelSecond(m, modelAsk(s, api.Super, true), at, kind)
	if lies, code := two.Guest(m, s, at, kind); lies != wantLies || code != wantCode {
		t.Fatalf("P12.2: %s: Guest(%#x, kind %d) = %#x, %d, want %#x, %d", what, at, kind, lies, code, wantLies, wantCode)
	}
	return got
}
