package two

import "sallyport/api"

// What can be wrong with an access.
const (
	noFault = iota
	pageFault
	guestFault
	accessFault
)

// placeLost: a guest's place is told without its two lowest bits.
const placeLost = 2

// fault: only a guest's fault tells the place.
func fault(wrong, kind int, at, place uint64, v bool) api.Fault {
	f := api.Fault{Cause: cause(wrong, kind), Value: at, GVA: v}
	if wrong == guestFault {
		f.Place = place >> placeLost
	}
	return f
}

// cause: 0 of a kind that is none.
func cause(wrong, kind int) uint64 {
	causes := [...][3]uint64{
		pageFault:   {api.Fetch: api.PageFetch, api.Load: api.PageLoad, api.Store: api.PageStore},
		guestFault:  {api.Fetch: api.GuestFetch, api.Load: api.GuestLoad, api.Store: api.GuestStore},
		accessFault: {api.Fetch: api.BadFetch, api.Load: api.BadLoad, api.Store: api.BadStore},
	}
	if kind < 0 || kind >= len(causes[wrong]) {
		return 0
	}
	return causes[wrong][kind]
}
