package csr

import (
	"math"

	"sallyport/api"
)

// MPP, of Mstatus: a level.
const (
	mppFrom = 11
	mppBits = 2
)

// Interrupts, by their bits.
const (
	hostTimer  = 1 << 5
	guestTimer = hostTimer << guestUp
	hostLine   = 1 << 9
	guestLine  = hostLine << guestUp
	guestUp    = 1 // a guest's stand that much higher than what it sees them as
)

// What several registers have the same: each is written out once, so that they can't disagree.
const (
	all         = math.MaxUint64
	aligned     = all &^ 3
	superBits   = 1<<1 | 1<<5 | 1<<8 | 1<<18 | 1<<19    // SIE, SPIE, SPP, SUM, MXR
	machBits    = 1<<3 | 1<<7 | (1<<mppBits-1)<<mppFrom // MIE, MPIE, MPP
	trapBits    = 1<<20 | 1<<21 | 1<<22                 // TVM, TW, TSR; of Hstatus VTVM, VTW, VTSR
	tableBits   = 0xff | 0xff<<16 | 1<<63               // the frame, the mark, on
	hostBits    = hostTimer | hostLine
	guestBits   = guestTimer | guestLine
	causes      = 1<<(api.CallUser+1) - 1 | 1<<api.PageFetch | 1<<api.PageLoad | 1<<api.PageStore // 0 to 8, 12, 13, 15
	guestCauses = 1<<api.CallGuest | 1<<api.GuestFetch | 1<<api.GuestLoad | 1<<api.Virtual | 1<<api.GuestStore
)

// registers, by index: the number, and the bits that may be written.
var registers = [api.CSRs]struct {
	number int
	bits   uint64
}{
	api.Mstatus:   {0x300, superBits | machBits | trapBits | 1<<38 | 1<<39}, // GVA, MPV
	api.Medeleg:   {0x302, causes | guestCauses},
	api.Mideleg:   {0x303, hostBits},
	api.Mie:       {0x304, hostBits | guestBits},
	api.Mtvec:     {0x305, aligned},
	api.Mscratch:  {0x340, all},
	api.Mepc:      {0x341, aligned},
	api.Mcause:    {0x342, all},
	api.Mtval:     {0x343, all},
	api.Mtval2:    {0x34b, all},
	api.Stvec:     {0x105, aligned},
	api.Sscratch:  {0x140, all},
	api.Sepc:      {0x141, aligned},
	api.Scause:    {0x142, all},
	api.Stval:     {0x143, all},
	api.Satp:      {0x180, tableBits},
	api.Hstatus:   {0x600, trapBits | 1<<6 | 1<<7 | 1<<8 | 1<<9}, // GVA, SPV, SPVP, HU
	api.Hedeleg:   {0x602, causes},
	api.Hideleg:   {0x603, guestBits},
	api.Hvip:      {0x645, guestBits},
	api.Htval:     {0x643, all},
	api.Hgatp:     {0x680, tableBits},
	api.Vsstatus:  {0x200, superBits},
	api.Vstvec:    {0x205, aligned},
	api.Vsscratch: {0x240, all},
	api.Vsepc:     {0x241, aligned},
	api.Vscause:   {0x242, all},
	api.Vstval:    {0x243, all},
	api.Vsatp:     {0x280, tableBits},
}

// instret is no register: it tells Done.
const instret = 0xc02

// views: numbers that show some bits of another register.
var views = [...]struct {
	number, index int
	bits          uint64
	lower         uint8
}{
	{0x100, api.Mstatus, superBits, 0},   // sstatus
	{0x104, api.Mie, hostBits, 0},        // sie
	{0x204, api.Mie, guestBits, guestUp}, // vsie
}

// guests: of the host's numbers those that stand for them in a guest.
var guests = [...]struct{ host, guest int }{
	{0x100, 0x200},
	{0x104, 0x204},
	{0x105, 0x205},
	{0x140, 0x240},
	{0x141, 0x241},
	{0x142, 0x242},
	{0x143, 0x243},
	{0x180, 0x280},
}
