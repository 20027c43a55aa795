package encode

import (
	"strconv"
	"strings"

	"sallyport/api"
	"sallyport/insn"
)

// Text: see the chapter.
func Text(i api.Insn) string {
	if !insn.Is(i) {
		return ""
	}
	name := insn.Name(i.Op)
	told := tell(i, kindOf(i.Op).parts)
	if len(told) == 0 {
		return name
	}
	return name + " " + strings.Join(told, ",")
}

// tell: the parts of i that parts names, in the chapter's order.
func tell(i api.Insn, parts int) []string {
	var told []string
	if parts&rd != 0 {
		told = append(told, register(i.Rd))
	}
	if parts&csr != 0 {
		told = append(told, strconv.Itoa(i.CSR))
	}
	if parts&rs1 != 0 {
		told = append(told, register(i.Rs1))
	}
	if parts&rs2 != 0 {
		told = append(told, register(i.Rs2))
	}
	if parts&imm != 0 {
		told = append(told, strconv.FormatInt(i.Imm, 10))
	}
	return told
}

func register(n int) string { return "x" + strconv.Itoa(n) }
