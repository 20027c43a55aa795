package two

import "sallyport/api"

// Bits of Mstatus and Vsstatus.
const (
	sumBit = 1 << 18
	mxrBit = 1 << 19
)

// Parts of Satp, Vsatp and Hgatp.
const (
	onBit    = 1 << 63
	markFrom = 16
	part     = 0xff
)

// Ask: see the chapter.
func Ask(s api.State, level int, v bool) api.Asking {
	if level == api.Machine {
		return api.Asking{}
	}
	host := s.C[api.Mstatus]
	if !v {
		return withFirst(s.C[api.Satp], api.Asking{Sum: host&sumBit != 0, Mxr: host&mxrBit != 0})
	}
	guest := s.C[api.Vsstatus]
	a := api.Asking{Sum: guest&sumBit != 0, Mxr: (guest|host)&mxrBit != 0}
	a.Second, a.Vmid, a.Host = table(s.C[api.Hgatp])
	return withFirst(s.C[api.Vsatp], a)
}

func withFirst(c uint64, a api.Asking) api.Asking {
	a.First, a.Asid, a.Root = table(c)
	return a
}

// table: whether a table is on, its mark and its root.
func table(c uint64) (bool, int, int) {
	if c&onBit == 0 {
		return false, 0, 0
	}
	return true, int(c >> markFrom & part), int(c & part)
}
