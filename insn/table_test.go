package insn

import (
	"math"
	"testing"

	"sallyport/api"
)

// From inside: the fields and the bounds of Imm, too, which no exported function tells by themselves.
func TestTable(t *testing.T) {
	ops := []int{math.MinInt, math.MinInt + 1, -api.Ops, 1<<32 + api.Addi, math.MaxInt - 1, math.MaxInt}
	for op := -100; op <= api.Ops+100; op++ {
		ops = append(ops, op)
	}
	for _, op := range ops {
		if got, want := listed(op), rowOf(op); got != want {
			t.Errorf("P2.2: of %d the table has %+v, the function says %+v", op, got, want)
		}
		if is := 1 <= op && op < api.Ops; (listed(op) != row{}) != is {
			t.Errorf("P2.1: of %d the table has %+v", op, listed(op))
		}
	}
}
