package pte

import "sallyport/api"

// Bits of an entry.
const (
	valid = 1 << iota
	readable
	writable
	runnable
	users
	_ // no entry has it
	accessed
	dirty
)

// Where both parts of an entry stand, and how wide each is.
const (
	bitsFrom  = 0
	frameFrom = 8
	width     = 8
)

// known: all that an entry can have.
const known = valid | readable | writable | runnable | users | accessed | dirty | (1<<width-1)<<frameFrom

// letters, in the order in which they are told.
var letters = [...]struct {
	bit    uint64
	letter byte
}{
	{valid, 'V'},
	{readable, 'R'},
	{writable, 'W'},
	{runnable, 'X'},
	{users, 'U'},
	{accessed, 'A'},
	{dirty, 'D'},
}

// rights: bits that together let a kind be done; a row with mxr, only where that is on.
var rights = [...]struct {
	kind, bits int
	mxr        bool
}{
	{api.Fetch, runnable, false},
	{api.Load, readable, false},
	{api.Load, runnable, true},
	{api.Store, writable | dirty, false},
}
