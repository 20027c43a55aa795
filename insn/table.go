package insn

import (
	"sync"

	"sallyport/api"
)

// row: all that is said of one operation; of none: the zero one.
type row struct {
	rule
	name string
	size int
}

func rowOf(op int) row {
	return row{rule: ruleOf(op), name: nameOf(op), size: sizeOf(op)}
}

// The table is made once, when it is first asked; nobody changes it later.
var (
	made  sync.Once
	table [api.Ops]row
)

func listed(op int) row {
	made.Do(makeTable)
	if !below(op, len(table)) {
		return row{}
	}
	return table[op]
}

func makeTable() {
	for op := range table {
		table[op] = rowOf(op)
	}
}
