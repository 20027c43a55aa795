package two

import (
	"sallyport/api"
	"sallyport/mem"
	"sallyport/pte"
	"sallyport/walk"
)

// way: an access on its way through the two tables.
type way struct {
	m      *mem.Memory
	asking api.Asking
	at     uint64
	kind   int
	user   bool
	place  uint64 // the guest's place that it has come to
	lies   uint64 // where that is in memory
	bits   int    // of the first leaf
	host   int    // of the second one
}

// goBoth: each place that the first walk comes to (its entries', then the leaf's) goes through the second one, so that one loop does both. It answers what is wrong.
func (w *way) goBoth() int {
	w.place, w.bits = w.at, without
	// An entry of the first table stands for as many pages as a table has entries, one of the next for one; where at itself is come to, for none.
	many := 0
	if w.asking.First {
		many = entries
		w.toEntry(w.asking.Root, many)
	}
both:
	for {
		if wrong := w.goSecond(many > 0); wrong != noFault {
			return wrong
		}
		if many == 0 {
			return noFault
		}
		e, there := walk.Entry(w.m, frameOf(w.lies), int(w.lies%api.PageSize/entryBytes))
		switch {
		case !there:
			return accessFault
		case !pte.Is(e):
			break both
		case pte.Leaf(e):
			if !w.toLeaf(e, many) {
				break both
			}
			many = 0
		case many == 1:
			break both
		default:
			many /= entries
			w.toEntry(pte.Frame(e), many)
		}
	}
	return pageFault
}

// goSecond: a table is read by whatever kind of access needs it.
func (w *way) goSecond(table bool) int {
	kind := w.kind
	if table {
		kind = api.Load
	}
	var code int
	w.lies, w.host, code = second(w.m, w.asking, w.place, kind)
	switch code {
	case nothing:
		return guestFault
	case noTable:
		return accessFault
	}
	return noFault
}

// toEntry: on to at's entry of a table whose entries stand for so many pages each.
func (w *way) toEntry(table, many int) {
	w.place = placeIn(table, uint64(frameOf(w.at)/many%entries*entryBytes))
}

// toLeaf: on to what a leaf for so many pages leads to, if it may be and its frames begin at a multiple of these.
func (w *way) toLeaf(e uint64, many int) bool {
	bits, first := int(e&leafBits), pte.Frame(e)
	if first%many != 0 || !pte.May(bits, w.kind, w.user, w.asking.Sum, w.asking.Mxr) {
		return false
	}
	w.place, w.bits = placeIn(first+frameOf(w.at)%many, w.at), bits
	return true
}
