package asm

import (
	"go/ast"
	"go/parser"
	"go/token"
	"math"
	"math/rand"
	"strconv"
	"strings"
	"testing"

	"marionette/api"
	"marionette/inst"
)

// apiNames is the operators as api writes them, in their order, from 1 on.
func apiNames(t *testing.T) []string {
	t.Helper()
	file, err := parser.ParseFile(token.NewFileSet(), "../api/api.go", nil, 0)
	if err != nil {
		t.Fatal(err)
	}
	list := []string{""}
	for _, d := range file.Decls {
		group, ok := d.(*ast.GenDecl)
		if !ok || group.Tok != token.CONST {
			continue
		}
		for _, s := range group.Specs {
			if name := s.(*ast.ValueSpec).Names[0].Name; strings.HasPrefix(name, "Op") {
				list = append(list, name)
			}
		}
	}
	if len(list) != api.LastOp+1 {
		t.Fatalf("%d operators are written, not %d", len(list)-1, api.LastOp)
	}
	return list
}

// wantName is the chapter's rule for names.
func wantName(written string) string {
	s := strings.TrimPrefix(written, "Op")
	atomic := strings.HasPrefix(s, "Amo") || strings.HasPrefix(s, "Lr") || strings.HasPrefix(s, "Sc")
	if last := len(s) - 1; s == "FenceI" || atomic {
		s = s[:last] + "." + s[last:]
	}
	return strings.ToLower(s)
}

func TestNames(t *testing.T) {
	for op, written := range apiNames(t) {
		if op == 0 {
			continue
		}
		want := wantName(written)
		if got := Name(op); got != want {
			t.Errorf("Name(%s): %q, not %q", written, got, want)
		}
		if got, ok := Op(want); !ok || got != op {
			t.Errorf("Op(%q): %d %v, not %d", want, got, ok, op)
		}
	}
}

func TestNamesAsWritten(t *testing.T) {
	for name, want := range map[string]int{
		"lui": api.OpLui, "jalr": api.OpJalr, "bgeu": api.OpBgeu, "lwu": api.OpLwu, "sltiu": api.OpSltiu,
		"srai": api.OpSrai, "sraiw": api.OpSraiw, "subw": api.OpSubw, "mulhsu": api.OpMulhsu, "remuw": api.OpRemuw,
		"lr.w": api.OpLrW, "sc.d": api.OpScD, "amoswap.d": api.OpAmoswapD, "amomaxu.w": api.OpAmomaxuW,
		"fence": api.OpFence, "fence.i": api.OpFenceI, "ecall": api.OpEcall, "ebreak": api.OpEbreak,
	} {
		if got := Name(want); got != name {
			t.Errorf("Name(%d): %q, not %q", want, got, name)
		}
		if got, ok := Op(name); !ok || got != want {
			t.Errorf("Op(%q): %d %v", name, got, ok)
		}
	}
}

func TestNoNames(t *testing.T) {
	for _, op := range []int{0, -1, api.LastOp + 1, math.MaxInt, math.MinInt} {
		if got := Name(op); got != "" {
			t.Errorf("Name(%d): %q", op, got)
		}
	}
	for _, name := range []string{
		"", " ", "x", "Lui", "ADDI", "addi ", " addi", "opaddi", "lrw", "lr", "lr.", "lr.w.aq", "lr.W", "amoadd",
		"amoaddw", "amoadd.w.aqrl", "fencei", "fence.I", "addw.", "add.w", "sub.w", ".byte", "ecall\n", "\x00", "\xff", "addi\x00",
	} {
		if got, ok := Op(name); ok || got != 0 {
			t.Errorf("Op(%q): %d %v", name, got, ok)
		}
	}
}

// shapes is the chapter's sentence: after the names of each group, what is told of them.
var shapes = []struct{ names, parts string }{
	{"lui auipc", "rd upper"},
	{"jal", "rd imm"},
	{"jalr lb lh lw ld lbu lhu lwu", "rd imm rs1"},
	{"beq bne blt bge bltu bgeu", "rs1 rs2 imm"},
	{"sb sh sw sd", "rs2 imm rs1"},
	{"addi slti sltiu xori ori andi slli srli srai addiw slliw srliw sraiw", "rd rs1 imm"},
	{"add sub sll slt sltu xor srl sra or and addw subw sllw srlw sraw", "rd rs1 rs2"},
	{"mul mulh mulhsu mulhu div divu rem remu mulw divw divuw remw remuw", "rd rs1 rs2"},
	{"lr.w lr.d", "rd rs1"},
	{"sc.w amoswap.w amoadd.w amoxor.w amoand.w amoor.w amomin.w amomax.w amominu.w amomaxu.w", "rd rs2 rs1"},
	{"sc.d amoswap.d amoadd.d amoxor.d amoand.d amoor.d amomin.d amomax.d amominu.d amomaxu.d", "rd rs2 rs1"},
	{"fence fence.i ecall ebreak", ""},
}

// wantText tells i by the chapter's sentence; empty where no group has that name.
func wantText(name string, i api.Inst) string {
	for _, shape := range shapes {
		if !strings.Contains(" "+shape.names+" ", " "+name+" ") {
			continue
		}
		var told []string
		for _, part := range strings.Fields(shape.parts) {
			told = append(told, map[string]string{
				"rd":    "x" + strconv.Itoa(i.Rd),
				"rs1":   "x" + strconv.Itoa(i.Rs1),
				"rs2":   "x" + strconv.Itoa(i.Rs2),
				"imm":   strconv.Itoa(i.Imm),
				"upper": strconv.FormatUint(uint64(uint32(i.Imm))/4096, 10),
			}[part])
		}
		name += map[int]string{1: ".rl", 2: ".aq", 3: ".aqrl"}[i.Order]
		return strings.TrimSpace(name + " " + strings.Join(told, ", "))
	}
	return ""
}

// someSound is sound instructions of every operator, with parts at their ends and between.
func someSound() []api.Inst {
	random := rand.New(rand.NewSource(5))
	var list []api.Inst
	add := func(i api.Inst) {
		i.Size = 4
		if inst.Sound(i) {
			list = append(list, i)
		}
	}
	imms := []int{
		0, 1, -1, 2, -2, 5, 31, 32, 63, 64, 2047, 2048, -2048, 4094, -4096, 4096, 8192, 1<<20 - 2, -1 << 20,
		1<<31 - 4096, -1 << 31, 93 << 12, -93 << 12,
	}
	for op := range api.LastOp + 1 {
		for _, imm := range imms {
			add(api.Inst{Op: op, Imm: imm})
			add(api.Inst{Op: op, Rd: 31, Imm: imm})
			add(api.Inst{Op: op, Rd: 1, Rs1: 2, Imm: imm})
			add(api.Inst{Op: op, Rs1: 30, Rs2: 10, Imm: imm})
		}
		for order := range 4 {
			add(api.Inst{Op: op, Rd: 1, Rs1: 2, Rs2: 3, Order: order})
			add(api.Inst{Op: op, Rd: 31, Rs1: 30, Order: order})
			add(api.Inst{Op: op, Rd: random.Intn(32), Rs1: random.Intn(32), Rs2: random.Intn(32), Order: order})
		}
	}
	for range 20000 {
		if i, ok := inst.Decode(random.Uint32() | 3); ok {
			list = append(list, i)
		}
	}
	return list
}

func TestTextAndParse(t *testing.T) {
	written := apiNames(t)
	seen := map[int]int{}
	for _, i := range someSound() {
		seen[i.Op]++
		want := wantText(wantName(written[i.Op]), i)
		if got, ok := Text(i); !ok || got != want {
			t.Fatalf("Text(%+v): %q %v, not %q", i, got, ok, want)
		}
		if got, ok := Parse(want); !ok || got != i {
			t.Fatalf("Parse(%q): %+v %v, not %+v", want, got, ok, i)
		}
	}
	for op := 1; op <= api.LastOp; op++ {
		if seen[op] == 0 {
			t.Errorf("no instruction of %s was tried", written[op])
		}
	}
}

func TestTextAsWritten(t *testing.T) {
	for want, i := range map[string]api.Inst{
		"lui x1, 0":                  {Op: api.OpLui, Rd: 1},
		"lui x31, 524287":            {Op: api.OpLui, Rd: 31, Imm: 1<<31 - 4096},
		"lui x0, 524288":             {Op: api.OpLui, Imm: -1 << 31},
		"auipc x5, 1048575":          {Op: api.OpAuipc, Rd: 5, Imm: -4096},
		"jal x1, -1048576":           {Op: api.OpJal, Rd: 1, Imm: -1 << 20},
		"jalr x0, 0, x1":             {Op: api.OpJalr, Rs1: 1},
		"lbu x3, 2047, x4":           {Op: api.OpLbu, Rd: 3, Rs1: 4, Imm: 2047},
		"bgeu x1, x2, 4094":          {Op: api.OpBgeu, Rs1: 1, Rs2: 2, Imm: 4094},
		"sw x7, -2048, x8":           {Op: api.OpSw, Rs1: 8, Rs2: 7, Imm: -2048},
		"srai x1, x2, 63":            {Op: api.OpSrai, Rd: 1, Rs1: 2, Imm: 63},
		"sraiw x1, x2, 31":           {Op: api.OpSraiw, Rd: 1, Rs1: 2, Imm: 31},
		"sub x1, x2, x3":             {Op: api.OpSub, Rd: 1, Rs1: 2, Rs2: 3},
		"sc.w.rl x1, x2, x3":         {Op: api.OpScW, Rd: 1, Rs1: 3, Rs2: 2, Order: 1},
		"amominu.d x1, x2, x3":       {Op: api.OpAmominuD, Rd: 1, Rs1: 3, Rs2: 2},
		"amoor.w.aqrl x31, x30, x29": {Op: api.OpAmoorW, Rd: 31, Rs1: 29, Rs2: 30, Order: 3},
		"lr.w.aq x1, x3":             {Op: api.OpLrW, Rd: 1, Rs1: 3, Order: 2},
		"lr.d.rl x1, x3":             {Op: api.OpLrD, Rd: 1, Rs1: 3, Order: 1},
		"fence":                      {Op: api.OpFence},
		"ebreak":                     {Op: api.OpEbreak},
	} {
		i.Size = 4
		if got, ok := Text(i); !ok || got != want {
			t.Errorf("Text(%+v): %q %v, not %q", i, got, ok, want)
		}
		if got, ok := Parse(want); !ok || got != i {
			t.Errorf("Parse(%q): %+v %v", want, got, ok)
		}
	}
}

func TestTextOfUnsound(t *testing.T) {
	for _, i := range []api.Inst{
		{}, {Op: -1, Size: 4}, {Op: api.LastOp + 1, Size: 4}, {Op: math.MaxInt, Size: 4}, {Op: math.MinInt, Size: 4},
		{Op: api.OpAddi, Rd: 1}, {Op: api.OpAddi, Rd: 1, Size: 2}, {Op: api.OpAddi, Rd: 1, Size: 8},
		{Op: api.OpAddi, Rd: 32, Size: 4}, {Op: api.OpAddi, Rs1: -1, Size: 4}, {Op: api.OpAddi, Rs2: 1, Size: 4},
		{Op: api.OpAddi, Imm: 2048, Size: 4}, {Op: api.OpAddi, Imm: math.MinInt, Size: 4},
		{Op: api.OpAddi, Order: 1, Size: 4}, {Op: api.OpLui, Imm: 1, Size: 4}, {Op: api.OpLui, Imm: 1 << 31, Size: 4},
		{Op: api.OpLrW, Rs2: 1, Size: 4}, {Op: api.OpLrW, Order: 4, Size: 4}, {Op: api.OpLrW, Order: -1, Size: 4},
		{Op: api.OpAmoaddW, Order: math.MaxInt, Size: 4}, {Op: api.OpBeq, Imm: 3, Size: 4}, {Op: api.OpEcall, Rd: 1, Size: 4},
	} {
		if got, ok := Text(i); ok || got != "" {
			t.Errorf("Text(%+v): %q %v", i, got, ok)
		}
	}
}

// noTexts is texts that are nearly some instruction's.
var noTexts = []string{
	" ", "x", ",", ", ", "addi", "addi ", "addi x1", "addi x1, x0", "addi x1, x0, ", "addi x1, x0, 5 ", " addi x1, x0, 5",
	"addi  x1, x0, 5", "addi x1,x0,5", "addi x1,  x0, 5", "addi x1 , x0, 5", "addi x1, x0, 5, ", "addi x1, x0, 5, 6", "addi\tx1, x0, 5",
	"addi x1, x0, 5\r", "addi x1, x0, 5\x00", "Addi x1, x0, 5", "addi X1, x0, 5", "addi 1, x0, 5",
	"addi x1, x0, x5", "addi xx1, x0, 5", "addi x, x0, 5", "addi x01, x0, 5", "addi x+1, x0, 5", "addi x-1, x0, 5", "addi x32, x0, 5",
	"addi x1, x0, 05", "addi x1, x0, +5", "addi x1, x0, -0", "addi x1, x0, 0x5", "addi x1, x0, 1_0", "addi x1, x0, -", "addi x1, x0, --5",
	"addi x1, x0, 2048", "addi x1, x0, -2049", "addi x1, x0, 18446744073709551621", "addi x1, x0, 9223372036854775808",
	"addi x18446744073709551617, x0, 5", "addi.aq x1, x0, 5", "add.rl x1, x2, x3", "add x1, x2", "add x1, x2, 3", "add x1, x2, x3, x4",
	"lui x1, -1", "lui x1, 1048576", "lui x1, 4503599627370496", "lui x1", "lui x1, x2", "lui x1, 1, 2", "lui x1, 0x1", "lui x1, 00",
	"jal x1, 1", "jal x1, 1048576", "jal x1, -1048578", "jal x1", "jal 4", "jalr x1, x2, 4", "jalr x1, 4(x2)", "jalr x1, 4",
	"ld x1, x2, 8", "ld x1, 8(x2)", "sd x1, x2, 8", "beq x1, x2, 1", "beq x1, x2, 4096", "beq x1, x2, x3", "beq x1, 4, x2",
	"slli x1, x2, 64", "slli x1, x2, -1", "slliw x1, x2, 32", "srliw x1, x2, 63",
	"lr.w x1, x2, x3", "lr.w x1, x0, x2", "lr.w x1", "lr x1, x2", "lr.aq x1, x2", "sc.w x1, x2", "sc.w.aq.rl x1, x2, x3", "sc.w.rlaq x1, x2, x3",
	"sc.w. x1, x2, x3", "sc.aq.w x1, x2, x3", "amoadd x1, x2, x3", "amoadd.w.aqrl.aq x1, x2, x3", "amoadd.w.AQ x1, x2, x3", "amoadd.w x1, x2, 3",
	"fence ", "fence x0", "fence iorw, iorw", "fence.i x0", "fence.aq", "fencei", "ecall ", "ecall x0", "ecall, ", "ecall.aq", "ebreak 0", "Ecall",
	"nop", "ret", "li x1, 5", "mv x1, x2", "\xff", "addi x1, x0, \xff", "addi x1, x0, ٥", "addi ra, zero, 5",
}

func TestParseOfNone(t *testing.T) {
	for _, s := range append([]string{"", ".byte 1", ".word 0", "ecall\n", "ecall\necall", "addi x1, x0, " + strings.Repeat("1", 10000)}, noTexts...) {
		if got, ok := Parse(s); ok || got != (api.Inst{}) {
			t.Errorf("Parse(%q): %+v %v", s, got, ok)
		}
	}
}

// TestParseNearTexts: whatever is changed in a text, what is parsed is told as it stands.
func TestParseNearTexts(t *testing.T) {
	bytes := []byte(" ,.x-+0123456789adiwlrq\n\x00\xff")
	for _, s := range []string{
		"addi x10, x0, -93", "lui x5, 1048575", "jal x1, 2046", "ld x1, -8, x2", "sd x1, 8, x2", "beq x1, x2, -4",
		"sub x1, x20, x31", "amoadd.w.aqrl x1, x2, x3", "lr.d.aq x1, x3", "fence.i", "ecall",
	} {
		for at := range len(s) + 1 {
			for _, b := range bytes {
				near := []string{s[:at] + string([]byte{b}) + s[at:]}
				if at < len(s) {
					near = append(near, s[:at]+s[at+1:], s[:at]+string([]byte{b})+s[at+1:])
				}
				for _, n := range near {
					holdParsed(t, n)
				}
			}
		}
	}
}

func holdParsed(t *testing.T, s string) {
	t.Helper()
	i, ok := Parse(s)
	if !ok {
		if i != (api.Inst{}) {
			t.Errorf("Parse(%q): %+v beside false", s, i)
		}
		return
	}
	if back := wantText(Name(i.Op), i); !inst.Sound(i) || back != s {
		t.Errorf("Parse(%q): %+v, which is told %q", s, i, back)
	}
}

func TestAssemble(t *testing.T) {
	for text, want := range map[string]string{
		"":                                   "",
		"\n":                                 "",
		"\n\n\n":                             "",
		"addi x10, x0, 93\necall":            "\x13\x05\xd0\x05\x73\x00\x00\x00",
		"addi x10, x0, 93\necall\n":          "\x13\x05\xd0\x05\x73\x00\x00\x00",
		"\necall\n\n\nebreak\n\n":            "\x73\x00\x00\x00\x73\x00\x10\x00",
		"fence":                              "\x0f\x00\xf0\x0f",
		"fence.i":                            "\x0f\x10\x00\x00",
		".byte 0":                            "\x00",
		".byte 255\n":                        "\xff",
		".half 0":                            "\x00\x00",
		".half 258":                          "\x02\x01",
		".half 65535":                        "\xff\xff",
		".word 0":                            "\x00\x00\x00\x00",
		".word 16909060":                     "\x04\x03\x02\x01",
		".word 4294967295":                   "\xff\xff\xff\xff",
		".dword 0":                           "\x00\x00\x00\x00\x00\x00\x00\x00",
		".dword 72623859790382856":           "\x08\x07\x06\x05\x04\x03\x02\x01",
		".dword 18446744073709551615":        "\xff\xff\xff\xff\xff\xff\xff\xff",
		".byte 1\n.half 2\necall\n.byte 3\n": "\x01\x02\x00\x73\x00\x00\x00\x03",
	} {
		if b, line, e := Assemble(text); string(b) != want || line != 0 || e != api.OK {
			t.Errorf("Assemble(%q): %q %d %d, not %q", text, b, line, e, want)
		}
	}
}

func TestAssembleAsEncoded(t *testing.T) {
	var text strings.Builder
	var want []byte
	for _, i := range someSound() {
		s, _ := Text(i)
		text.WriteString(s + "\n")
		w, _ := inst.Encode(i)
		want = append(want, byte(w), byte(w>>8), byte(w>>16), byte(w>>24))
	}
	if b, line, e := Assemble(text.String()); string(b) != string(want) || line != 0 || e != api.OK {
		t.Errorf("%d bytes, line %d, %d", len(b), line, e)
	}
}

func TestAssembleFaults(t *testing.T) {
	bad := append([]string{
		".byte", ".byte ", ".byte -1", ".byte 256", ".byte 00", ".byte 01", ".byte +1", ".byte 1 ", ".byte  1", " .byte 1", ".byte x1",
		".byte 0x1", ".byte 1, 2", ".byte 1_0", ".byte\t1", ".byte 1\r", ".Byte 1", "byte 1", ".bytes 1", ".byte 18446744073709551616",
		".half", ".half 65536", ".half 065535", ".word 4294967296", ".word -1", ".word", ".dword 18446744073709551616", ".dword -1", ".dword ",
		".dword 99999999999999999999999", ".quad 1", ".space 4", ". 1", "# ecall", "ecall # x", "a:", "\r", "\x00",
	}, noTexts...)
	for _, one := range bad {
		for ahead := range 4 {
			for _, behind := range []string{"", "\n", "\necall", "\n.byte 256\n", "\n\n"} {
				text := strings.Repeat("ecall\n", ahead) + one + behind
				if b, line, e := Assemble(text); len(b) != 0 || line != ahead+1 || e != api.ErrText {
					t.Errorf("Assemble(%q): %q %d %d", text, b, line, e)
				}
			}
		}
	}
}

func TestAssembleCountsEmptyLines(t *testing.T) {
	if b, line, e := Assemble("\n\necall\n\nnone\n\nnone"); len(b) != 0 || line != 5 || e != api.ErrText {
		t.Errorf("%q %d %d", b, line, e)
	}
}

func TestAssembleLarge(t *testing.T) {
	const most = api.MaxFile / 8
	full := strings.Repeat(".dword 1\n", most)
	less := strings.Repeat(".dword 1\n", most-1)
	for _, text := range []string{
		full, full + "\n\n", less + "ecall\necall\n", less + "ecall\n.half 1\n.byte 1\n.byte 1", ".byte 1\n" + less + ".word 1\n.half 1\n.byte 1",
	} {
		if b, line, e := Assemble(text); len(b) != api.MaxFile || line != 0 || e != api.OK {
			t.Errorf("%d bytes, %d %d, where there may be as many", len(b), line, e)
		}
	}
	for _, behind := range []string{".byte 1", ".byte 1\n", ".half 1\n", ".word 1", ".dword 1", "ecall\n", "ecall\n.byte 1\n\n"} {
		if b, line, e := Assemble(full + behind); len(b) != 0 || line != 0 || e != api.ErrLarge {
			t.Errorf("%d bytes, %d %d, with %q too many", len(b), line, e, behind)
		}
	}
	if b, line, e := Assemble(less + "ecall\n.half 1\n.word 1\n.byte 1"); len(b) != 0 || line != 0 || e != api.ErrLarge {
		t.Errorf("%d bytes, %d %d, where a line in the middle is too much", len(b), line, e)
	}
	// A fault of the text goes before, wherever it stands.
	for _, behind := range []string{"none\n", ".byte 256", "none\necall\n"} {
		if b, line, e := Assemble(full + "ecall\n" + behind); len(b) != 0 || line != most+2 || e != api.ErrText {
			t.Errorf("%d bytes, %d %d, with %q behind too many", len(b), line, e, behind)
		}
	}
}

// TestNothingShared: no two answers have memory in common.
func TestNothingShared(t *testing.T) {
	one, _, _ := Assemble("ecall")
	two, _, _ := Assemble("ecall")
	clear(one[:cap(one)])
	if string(two) != "s\x00\x00\x00" {
		t.Errorf("%q", two)
	}
}
