package route

import (
	"sallyport/api"
)

// Numbers of interrupts, as they are pending and as they are told.
const (
	hostTimer  = 5
	guestTimer = 6
	hostLine   = 9
	guestLine  = 10
)

// order: of those that may come the first one does. Each is its bit's, if the register of control by, which sends interrupts further down, has that bit as sent says.
var order = [...]struct {
	bit   uint64
	by    int
	sent  bool
	level int
	v     bool
	told  uint64 // a guest is told of its own ones as if it were nobody's guest
}{
	{hostLine, api.Mideleg, false, api.Machine, false, hostLine},
	{hostTimer, api.Mideleg, false, api.Machine, false, hostTimer},
	{hostLine, api.Mideleg, true, api.Super, false, hostLine},
	{hostTimer, api.Mideleg, true, api.Super, false, hostTimer},
	{guestLine, api.Hideleg, false, api.Super, false, guestLine},
	{guestTimer, api.Hideleg, false, api.Super, false, guestTimer},
	{guestLine, api.Hideleg, true, api.Super, true, hostLine},
	{guestTimer, api.Hideleg, true, api.Super, true, hostTimer},
}
