package inst

import "marionette/api"

// Opcodes.
const (
	codeLoad       = 0x03
	codeFence      = 0x0f
	codeImmediate  = 0x13
	codeAuipc      = 0x17
	codeImmediateW = 0x1b
	codeStore      = 0x23
	codeAtomic     = 0x2f
	codeRegisters  = 0x33
	codeLui        = 0x37
	codeRegistersW = 0x3b
	codeBranch     = 0x63
	codeJalr       = 0x67
	codeJal        = 0x6f
	codeSystem     = 0x73
)

// Where the other fields that choose an operator begin, and what they hold.
const (
	f3At      = 12
	f3Word    = 2
	f3Double  = 3
	f5At      = 27
	f7At      = 25
	f7Other   = 32 // a second operator beside the plain one
	f7Product = 1
)

// Instructions that have no parts.
const (
	wordFence  = 0x0ff0000f
	wordFenceI = 0x0000100f
	wordEcall  = 0x00000073
	wordEbreak = 0x00100073
)

// How many bits tell how far is shifted, in whole words and in those of 32 bits.
const (
	wideShift   = 6
	narrowShift = 5
)

// Operators by f3; 0 where there is none.
var (
	jumps             = [8]int{api.OpJalr}
	branches          = [8]int{0: api.OpBeq, 1: api.OpBne, 4: api.OpBlt, 5: api.OpBge, 6: api.OpBltu, 7: api.OpBgeu}
	loads             = [8]int{api.OpLb, api.OpLh, api.OpLw, api.OpLd, api.OpLbu, api.OpLhu, api.OpLwu}
	stores            = [8]int{api.OpSb, api.OpSh, api.OpSw, api.OpSd}
	immediates        = [8]int{0: api.OpAddi, 2: api.OpSlti, 3: api.OpSltiu, 4: api.OpXori, 6: api.OpOri, 7: api.OpAndi}
	shifts            = [8]int{1: api.OpSlli, 5: api.OpSrli}
	otherShifts       = [8]int{5: api.OpSrai}
	plain             = [8]int{api.OpAdd, api.OpSll, api.OpSlt, api.OpSltu, api.OpXor, api.OpSrl, api.OpOr, api.OpAnd}
	otherPlain        = [8]int{0: api.OpSub, 5: api.OpSra}
	products          = [8]int{api.OpMul, api.OpMulh, api.OpMulhsu, api.OpMulhu, api.OpDiv, api.OpDivu, api.OpRem, api.OpRemu}
	narrowImmediates  = [8]int{api.OpAddiw}
	narrowShifts      = [8]int{1: api.OpSlliw, 5: api.OpSrliw}
	otherNarrowShifts = [8]int{5: api.OpSraiw}
	narrowPlain       = [8]int{0: api.OpAddw, 1: api.OpSllw, 5: api.OpSrlw}
	otherNarrowPlain  = [8]int{0: api.OpSubw, 5: api.OpSraw}
	narrowProducts    = [8]int{0: api.OpMulw, 4: api.OpDivw, 5: api.OpDivuw, 6: api.OpRemw, 7: api.OpRemuw}
	fences            = [8]int{api.OpFence, api.OpFenceI}
)

// Atomic operators by bits 27 to 31, of 32 and of 64 bits.
var (
	atomicWords = [32]int{
		0: api.OpAmoaddW, 1: api.OpAmoswapW, 2: api.OpLrW, 3: api.OpScW, 4: api.OpAmoxorW, 8: api.OpAmoorW,
		12: api.OpAmoandW, 16: api.OpAmominW, 20: api.OpAmomaxW, 24: api.OpAmominuW, 28: api.OpAmomaxuW,
	}
	atomicDoubles = [32]int{
		0: api.OpAmoaddD, 1: api.OpAmoswapD, 2: api.OpLrD, 3: api.OpScD, 4: api.OpAmoxorD, 8: api.OpAmoorD,
		12: api.OpAmoandD, 16: api.OpAmominD, 20: api.OpAmomaxD, 24: api.OpAmominuD, 28: api.OpAmomaxuD,
	}
)

// look answers the operator and the form of the instruction that w is; 0 where it is none.
func look(w uint32) (int, form) {
	f3, f7 := piece(w, f3At, 3), piece(w, f7At, 7)
	switch piece(w, 0, 7) {
	case codeLui:
		return api.OpLui, upper
	case codeAuipc:
		return api.OpAuipc, upper
	case codeJal:
		return api.OpJal, jump
	case codeJalr:
		return jumps[f3], immediate
	case codeBranch:
		return branches[f3], branch
	case codeLoad:
		return loads[f3], immediate
	case codeStore:
		return stores[f3], store
	case codeImmediate:
		return lookImmediate(f3, f7)
	case codeRegisters:
		return byF7(f7, plain, otherPlain, products)[f3], registers
	case codeImmediateW:
		return lookImmediateW(f3, f7)
	case codeRegistersW:
		return byF7(f7, narrowPlain, otherNarrowPlain, narrowProducts)[f3], registers
	case codeAtomic:
		return lookAtomic(w, f3), atomic
	case codeFence:
		return fences[f3], bare
	case codeSystem:
		return lookSystem(w), bare
	}
	return 0, nil
}

// byF7 is the operators among which f3 chooses.
func byF7(f7 uint32, none, other, product [8]int) [8]int {
	switch f7 {
	case 0:
		return none
	case f7Other:
		return other
	case f7Product:
		return product
	}
	return [8]int{}
}

func lookImmediate(f3, f7 uint32) (int, form) {
	if op := immediates[f3]; op != 0 {
		return op, immediate
	}
	// The lowest bit of f7 is the highest one of how far is shifted.
	return byF7(f7&^1, shifts, otherShifts, [8]int{})[f3], shift(wideShift)
}

func lookImmediateW(f3, f7 uint32) (int, form) {
	if op := narrowImmediates[f3]; op != 0 {
		return op, immediate
	}
	return byF7(f7, narrowShifts, otherNarrowShifts, [8]int{})[f3], shift(narrowShift)
}

func lookAtomic(w, f3 uint32) int {
	op, f5 := 0, piece(w, f5At, 5)
	switch f3 {
	case f3Word:
		op = atomicWords[f5]
	case f3Double:
		op = atomicDoubles[f5]
	}
	if (op == api.OpLrW || op == api.OpLrD) && piece(w, 20, 5) != 0 {
		return 0
	}
	return op
}

func lookSystem(w uint32) int {
	switch w {
	case wordEcall:
		return api.OpEcall
	case wordEbreak:
		return api.OpEbreak
	}
	return 0
}

// keyOf is op's word, with noughts wherever its form has parts; 0, which is no instruction, where op is none.
func keyOf(op int) uint32 {
	switch op {
	case api.OpLui:
		return codeLui
	case api.OpAuipc:
		return codeAuipc
	case api.OpJal:
		return codeJal
	case api.OpFence:
		return wordFence
	case api.OpFenceI:
		return wordFenceI
	case api.OpEcall:
		return wordEcall
	case api.OpEbreak:
		return wordEbreak
	}
	if key := keyByF3(op); key != 0 {
		return key
	}
	return keyOfAtomic(op)
}

// keyByF3 seeks op in the arrays from which look takes it, so that the two never part.
func keyByF3(op int) uint32 {
	for _, row := range [...]struct {
		key uint32
		ops [8]int
	}{
		{codeJalr, jumps},
		{codeBranch, branches},
		{codeLoad, loads},
		{codeStore, stores},
		{codeImmediate, immediates},
		{codeImmediate, shifts},
		{codeImmediate | f7Other<<f7At, otherShifts},
		{codeRegisters, plain},
		{codeRegisters | f7Other<<f7At, otherPlain},
		{codeRegisters | f7Product<<f7At, products},
		{codeImmediateW, narrowImmediates},
		{codeImmediateW, narrowShifts},
		{codeImmediateW | f7Other<<f7At, otherNarrowShifts},
		{codeRegistersW, narrowPlain},
		{codeRegistersW | f7Other<<f7At, otherNarrowPlain},
		{codeRegistersW | f7Product<<f7At, narrowProducts},
	} {
		for f3, one := range row.ops {
			if one == op {
				return row.key | uint32(f3)<<f3At
			}
		}
	}
	return 0
}

func keyOfAtomic(op int) uint32 {
	for f5 := range uint32(32) {
		if atomicWords[f5] == op {
			return codeAtomic | f3Word<<f3At | f5<<f5At
		}
		if atomicDoubles[f5] == op {
			return codeAtomic | f3Double<<f3At | f5<<f5At
		}
	}
	return 0
}
