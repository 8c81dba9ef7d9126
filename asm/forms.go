package asm

import (
	"strconv"
	"strings"

	"marionette/api"
	"marionette/word"
)

// Forms of instructions: which parts are told, and in which order.
const (
	formBare = iota
	formUpper
	formJump
	formLoad
	formBranch
	formStore
	formImmediate
	formRegisters
	formReserve
	formAtomic
)

// Parts of instructions.
const (
	partRd = iota
	partRs1
	partRs2
	partImm
	partUpper // of Imm, without the noughts below
)

// Where the upper part of a number of 32 bits begins, and its bits.
const (
	wordBits  = 32
	upperAt   = 12
	upperMask = 1<<(wordBits-upperAt) - 1
)

// orders is what stands behind the names of atomic instructions, by their Order.
var orders = [4]string{"", ".rl", ".aq", ".aqrl"}

// names is the operators' names, by their numbers.
func names() [api.LastOp + 1]string {
	return [...]string{
		api.OpLui: "lui", api.OpAuipc: "auipc", api.OpJal: "jal", api.OpJalr: "jalr",
		api.OpBeq: "beq", api.OpBne: "bne", api.OpBlt: "blt", api.OpBge: "bge", api.OpBltu: "bltu", api.OpBgeu: "bgeu",
		api.OpLb: "lb", api.OpLh: "lh", api.OpLw: "lw", api.OpLd: "ld", api.OpLbu: "lbu", api.OpLhu: "lhu", api.OpLwu: "lwu",
		api.OpSb: "sb", api.OpSh: "sh", api.OpSw: "sw", api.OpSd: "sd",
		api.OpAddi: "addi", api.OpSlti: "slti", api.OpSltiu: "sltiu", api.OpXori: "xori", api.OpOri: "ori", api.OpAndi: "andi",
		api.OpSlli: "slli", api.OpSrli: "srli", api.OpSrai: "srai",
		api.OpAdd: "add", api.OpSub: "sub", api.OpSll: "sll", api.OpSlt: "slt", api.OpSltu: "sltu",
		api.OpXor: "xor", api.OpSrl: "srl", api.OpSra: "sra", api.OpOr: "or", api.OpAnd: "and",
		api.OpAddiw: "addiw", api.OpSlliw: "slliw", api.OpSrliw: "srliw", api.OpSraiw: "sraiw",
		api.OpAddw: "addw", api.OpSubw: "subw", api.OpSllw: "sllw", api.OpSrlw: "srlw", api.OpSraw: "sraw",
		api.OpMul: "mul", api.OpMulh: "mulh", api.OpMulhsu: "mulhsu", api.OpMulhu: "mulhu",
		api.OpDiv: "div", api.OpDivu: "divu", api.OpRem: "rem", api.OpRemu: "remu",
		api.OpMulw: "mulw", api.OpDivw: "divw", api.OpDivuw: "divuw", api.OpRemw: "remw", api.OpRemuw: "remuw",
		api.OpLrW: "lr.w", api.OpScW: "sc.w", api.OpAmoswapW: "amoswap.w", api.OpAmoaddW: "amoadd.w",
		api.OpAmoxorW: "amoxor.w", api.OpAmoandW: "amoand.w", api.OpAmoorW: "amoor.w",
		api.OpAmominW: "amomin.w", api.OpAmomaxW: "amomax.w", api.OpAmominuW: "amominu.w", api.OpAmomaxuW: "amomaxu.w",
		api.OpLrD: "lr.d", api.OpScD: "sc.d", api.OpAmoswapD: "amoswap.d", api.OpAmoaddD: "amoadd.d",
		api.OpAmoxorD: "amoxor.d", api.OpAmoandD: "amoand.d", api.OpAmoorD: "amoor.d",
		api.OpAmominD: "amomin.d", api.OpAmomaxD: "amomax.d", api.OpAmominuD: "amominu.d", api.OpAmomaxuD: "amomaxu.d",
		api.OpFence: "fence", api.OpFenceI: "fence.i", api.OpEcall: "ecall", api.OpEbreak: "ebreak",
	}
}

// formOf is op's form. The operators of one form have numbers that follow one another, but for a few.
func formOf(op int) int {
	switch {
	case op == api.OpLui || op == api.OpAuipc:
		return formUpper
	case op == api.OpJal:
		return formJump
	case op == api.OpJalr || api.OpLb <= op && op <= api.OpLwu:
		return formLoad
	case api.OpBeq <= op && op <= api.OpBgeu:
		return formBranch
	case api.OpSb <= op && op <= api.OpSd:
		return formStore
	case api.OpAddi <= op && op <= api.OpSrai || api.OpAddiw <= op && op <= api.OpSraiw:
		return formImmediate
	case api.OpAdd <= op && op <= api.OpAnd || api.OpAddw <= op && op <= api.OpRemuw:
		return formRegisters
	case op == api.OpLrW || op == api.OpLrD:
		return formReserve
	case api.OpScW <= op && op <= api.OpAmomaxuD:
		return formAtomic
	}
	return formBare
}

// partsOf is the parts that a form tells, in their order.
func partsOf(form int) []int {
	switch form {
	case formUpper:
		return []int{partRd, partUpper}
	case formJump:
		return []int{partRd, partImm}
	case formLoad:
		return []int{partRd, partImm, partRs1}
	case formBranch:
		return []int{partRs1, partRs2, partImm}
	case formStore:
		return []int{partRs2, partImm, partRs1}
	case formImmediate:
		return []int{partRd, partRs1, partImm}
	case formRegisters:
		return []int{partRd, partRs1, partRs2}
	case formReserve:
		return []int{partRd, partRs1}
	case formAtomic:
		return []int{partRd, partRs2, partRs1}
	}
	return nil
}

// field is where i has that part.
func field(i *api.Inst, part int) *int {
	switch part {
	case partRd:
		return &i.Rd
	case partRs1:
		return &i.Rs1
	case partRs2:
		return &i.Rs2
	}
	return &i.Imm
}

// tell is a part of i as text.
func tell(i api.Inst, part int) string {
	n := *field(&i, part)
	switch part {
	case partUpper:
		return strconv.Itoa(n >> upperAt & upperMask)
	case partImm:
		return strconv.Itoa(n)
	}
	return "x" + strconv.Itoa(n)
}

// read lays a part into i out of its text. What is no number is none that is told so.
func read(i *api.Inst, part int, s string) {
	n, _ := strconv.Atoi(strings.TrimPrefix(s, "x"))
	if part == partUpper {
		n = int(word.Sext(uint64(n)<<upperAt, wordBits))
	}
	*field(i, part) = n
}
