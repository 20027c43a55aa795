package decode

import (
	"sync"
)

// head: bits that tell an operation, and what stands in them.
type head struct {
	tells, held uint32
}

// The table is made once, when it is first asked; nobody changes it later.
var (
	made  sync.Once
	table map[head]int
)

// Listed: the operation of w by the table that is made once, 0 of none; Decode says the same without it.
func Listed(w uint32) int {
	made.Do(makeTable)
	for _, g := range groups {
		if op := table[head{g.tells, w & g.tells}]; op != 0 {
			return op
		}
	}
	return 0
}

func makeTable() {
	table = map[head]int{}
	for _, g := range groups {
		for op := g.first; op <= g.last; op++ {
			table[head{g.tells, heads[op]}] = op
		}
	}
}
