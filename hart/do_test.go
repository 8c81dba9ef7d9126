package hart

import (
	"math"
	"testing"

	"marionette/alu"
	"marionette/api"
	"marionette/atom"
	"marionette/cache"
	"marionette/mem"
)

// next is a state behind an instruction of 32 bits.
func next(t State) State { return at(t, t.PC+4) }

// P11.1: what is reckoned.

func TestReckonOfTwoRegisters(t *testing.T) {
	from := with(full(), 6, 0x8000000080000003, 7, 0xfffffffffffffffb)
	for op := api.OpAdd; op <= api.OpRemuw; op++ {
		if op >= api.OpAddiw && op <= api.OpSraiw {
			continue
		}
		want, ok := alu.Do(op, from.X[6], from.X[7])
		if !ok {
			t.Fatalf("operator %d", op)
		}
		wantDone(t, api.Inst{Op: op, Rd: 5, Rs1: 6, Rs2: 7}, from, next(with(from, 5, want)))
		wantDone(t, api.Inst{Op: op, Rd: 6, Rs1: 6, Rs2: 7}, from, next(with(from, 6, want)))
		wantDone(t, api.Inst{Op: op, Rd: 7, Rs1: 6, Rs2: 7}, from, next(with(from, 7, want)))
		wantDone(t, api.Inst{Op: op, Rd: 0, Rs1: 6, Rs2: 7}, from, next(from))
		same, _ := alu.Do(op, from.X[6], from.X[6])
		wantDone(t, api.Inst{Op: op, Rd: 31, Rs1: 6, Rs2: 6}, from, next(with(from, 31, same)))
	}
}

func TestReckonOfAnImmediate(t *testing.T) {
	from := with(full(), 6, 0x8000000080000003)
	wantImm := func(op, imm int) {
		t.Helper()
		want, ok := alu.Do(op, from.X[6], uint64(imm))
		if !ok {
			t.Fatalf("operator %d", op)
		}
		wantDone(t, api.Inst{Op: op, Rd: 5, Rs1: 6, Imm: imm}, from, next(with(from, 5, want)))
		wantDone(t, api.Inst{Op: op, Rd: 6, Rs1: 6, Imm: imm}, from, next(with(from, 6, want)))
		wantDone(t, api.Inst{Op: op, Rd: 0, Rs1: 6, Imm: imm}, from, next(from))
	}
	for _, op := range []int{api.OpAddi, api.OpSlti, api.OpSltiu, api.OpXori, api.OpOri, api.OpAndi, api.OpAddiw} {
		for _, imm := range []int{0, 1, 5, -1, -7, 2047, -2048} {
			wantImm(op, imm)
		}
	}
	for _, op := range []int{api.OpSlli, api.OpSrli, api.OpSrai} {
		for _, imm := range []int{0, 1, 31, 32, 63} {
			wantImm(op, imm)
		}
	}
	for _, op := range []int{api.OpSlliw, api.OpSrliw, api.OpSraiw} {
		for _, imm := range []int{0, 1, 31} {
			wantImm(op, imm)
		}
	}
}

func TestReckonByNumbers(t *testing.T) {
	from := with(full(), 6, 100, 7, end-6)
	wantDone(t, api.Inst{Op: api.OpAddi, Rd: 5, Rs1: 6, Imm: -101}, from, next(with(from, 5, end)))
	wantDone(t, api.Inst{Op: api.OpSub, Rd: 5, Rs1: 6, Rs2: 7}, from, next(with(from, 5, 107)))
	wantDone(t, api.Inst{Op: api.OpSub, Rd: 5, Rs1: 7, Rs2: 6}, from, next(with(from, 5, end-106)))
	wantDone(t, api.Inst{Op: api.OpDiv, Rd: 5, Rs1: 6, Rs2: 7}, from, next(with(from, 5, end-13)))
	wantDone(t, api.Inst{Op: api.OpDivu, Rd: 5, Rs1: 6, Rs2: 0}, from, next(with(from, 5, end)))
}

func TestLui(t *testing.T) {
	for _, imm := range []int{0, 4096, 1<<31 - 4096, -1 << 31, -4096} {
		wantDone(t, api.Inst{Op: api.OpLui, Rd: 5, Imm: imm}, full(), next(with(full(), 5, uint64(imm))))
		wantDone(t, api.Inst{Op: api.OpLui, Rd: 0, Imm: imm}, full(), next(full()))
	}
}

func TestAuipc(t *testing.T) {
	for _, imm := range []int{0, 4096, 1<<31 - 4096, -1 << 31, -4096} {
		wantDone(t, api.Inst{Op: api.OpAuipc, Rd: 5, Imm: imm}, full(), next(with(full(), 5, code+uint64(imm))))
		wantDone(t, api.Inst{Op: api.OpAuipc, Rd: 0, Imm: imm}, full(), next(full()))
	}
}

// P11.1: where it leads.

func TestJal(t *testing.T) {
	for _, imm := range []int{0, 2, 4, -2, 1<<20 - 2, -1 << 20} {
		to := code + uint64(imm)
		wantDone(t, api.Inst{Op: api.OpJal, Rd: 1, Imm: imm}, full(), at(with(full(), 1, code+4), to))
		wantDone(t, api.Inst{Op: api.OpJal, Rd: 0, Imm: imm}, full(), at(full(), to))
	}
}

func TestJalr(t *testing.T) {
	for _, base := range []uint64{0, 1, code, code + 1, code + 6, code + 7, end, end - 1, 1 << 63} {
		for _, imm := range []int{0, 1, -1, 2, 3, 2047, -2048} {
			to := (base + uint64(imm)) / 2 * 2
			from := with(full(), 6, base)
			wantDone(t, api.Inst{Op: api.OpJalr, Rd: 1, Rs1: 6, Imm: imm}, from, at(with(from, 1, code+4), to))
			wantDone(t, api.Inst{Op: api.OpJalr, Rd: 6, Rs1: 6, Imm: imm}, from, at(with(from, 6, code+4), to))
			wantDone(t, api.Inst{Op: api.OpJalr, Rd: 0, Rs1: 6, Imm: imm}, from, at(from, to))
		}
	}
	wantDone(t, api.Inst{Op: api.OpJalr, Rd: 1, Rs1: 0, Imm: -3}, full(), at(with(full(), 1, code+4), end-3))
}

func TestBranches(t *testing.T) {
	pairs := [][2]uint64{{1, 1}, {1, 2}, {2, 1}, {end, 1}, {1, end}, {1 << 63, 1<<63 - 1}, {end, end}}
	for op := api.OpBeq; op <= api.OpBgeu; op++ {
		both := map[bool]int{}
		for _, p := range pairs {
			from := with(full(), 6, p[0], 7, p[1])
			taken, _ := alu.Taken(op, p[0], p[1])
			both[taken]++
			for _, imm := range []int{0, 2, 8, -4, 4094, -4096} {
				want := next(from)
				if taken {
					want = at(from, code+uint64(imm))
				}
				wantDone(t, api.Inst{Op: op, Rs1: 6, Rs2: 7, Imm: imm}, from, want)
			}
		}
		if len(both) != 2 {
			t.Errorf("operator %d: %v", op, both)
		}
	}
	wantDone(t, api.Inst{Op: api.OpBltu, Rs1: 6, Rs2: 7, Imm: 64}, with(full(), 6, 1, 7, end), at(with(full(), 6, 1, 7, end), code+64))
	wantDone(t, api.Inst{Op: api.OpBlt, Rs1: 6, Rs2: 7, Imm: 64}, with(full(), 6, 1, 7, end), next(with(full(), 6, 1, 7, end)))
}

// A place that nothing may be fetched from is no fault of what leads there.
func TestFaultIsOfTheNextStep(t *testing.T) {
	s := spaceOf(wordOf(t, api.Inst{Op: api.OpJal, Rd: 1, Imm: -4096}))
	h := machine(s, full())
	there := at(with(full(), 1, code+4), code-size)
	if stop := h.Step(); stop != (api.Stop{}) {
		t.Errorf("stop %+v", stop)
	}
	wantState(t, h, there)
	wantStop(t, s, there, fault(api.FaultFetch, code-size))
}

// P11.1: loads.

// loaded is what a load of op finds where the bytes are 200, 199, .. from b on.
func loaded(op int, b byte) uint64 {
	n := map[int]int{api.OpLb: 1, api.OpLbu: 1, api.OpLh: 2, api.OpLhu: 2, api.OpLw: 4, api.OpLwu: 4, api.OpLd: 8}[op]
	w := uint64(0)
	for k := range n {
		w |= uint64(b-byte(k)) << (8 * k)
	}
	switch op {
	case api.OpLb:
		return uint64(int8(w))
	case api.OpLh:
		return uint64(int16(w))
	case api.OpLw:
		return uint64(int32(w))
	}
	return w
}

func TestLoads(t *testing.T) {
	for op := api.OpLb; op <= api.OpLwu; op++ {
		for _, off := range []int{0, 1, 72, 73, 100, 201, 4090, 4095, 8184} {
			want := loaded(op, byte(200-off))
			for _, imm := range []int{0, 5, -9, 2047, -2048} {
				from := with(full(), 6, data+uint64(off-imm))
				wantDone(t, api.Inst{Op: op, Rd: 5, Rs1: 6, Imm: imm}, from, next(with(from, 5, want)))
				wantDone(t, api.Inst{Op: op, Rd: 6, Rs1: 6, Imm: imm}, from, next(with(from, 6, want)))
				wantDone(t, api.Inst{Op: op, Rd: 0, Rs1: 6, Imm: imm}, from, next(from))
			}
		}
	}
}

func TestLoadFaults(t *testing.T) {
	widths := map[int]uint64{api.OpLb: 1, api.OpLbu: 1, api.OpLh: 2, api.OpLhu: 2, api.OpLw: 4, api.OpLwu: 4, api.OpLd: 8}
	for op, n := range widths {
		for _, rd := range []int{0, 5, 6} {
			s := spaceOf(wordOf(t, api.Inst{Op: op, Rd: rd, Rs1: 6, Imm: -4}))
			for _, addr := range []uint64{0, data - 1, data + 2*size, data + 2*size + 3, code, api.Top, 1 << 63, end} {
				wantStop(t, s, with(full(), 6, addr+4), fault(api.FaultLoad, addr))
			}
			if n > 1 {
				wantStop(t, s, with(full(), 6, data+2*size-n+1+4), fault(api.FaultLoad, data+2*size))
			}
		}
	}
}

func TestLoadOfWhatMayBeReadAlone(t *testing.T) {
	s := spaceOf(wordOf(t, api.Inst{Op: api.OpLbu, Rd: 5, Rs1: 6}))
	s.Protect(data, 2*size, api.ProtR)
	wantStep(t, s, with(full(), 6, data), next(with(full(), 6, data, 5, 200)))
	s.Protect(data, 2*size, api.ProtW)
	wantStop(t, s, with(full(), 6, data), fault(api.FaultLoad, data))
}

// P11.1: stores.

func TestStores(t *testing.T) {
	const given = 0xf1e2d3c4b5a69788
	widths := map[int]int{api.OpSb: 1, api.OpSh: 2, api.OpSw: 4, api.OpSd: 8}
	for op, n := range widths {
		for _, off := range []int{0, 1, 3, 100, 4090, 4095, 8184} {
			for _, imm := range []int{0, 5, -9, 2047, -2048} {
				from := with(full(), 6, data+uint64(off-imm), 7, given)
				s := wantDone(t, api.Inst{Op: op, Rs1: 6, Rs2: 7, Imm: imm}, from, next(from))
				wantData(t, s, off, n, given)
				s = wantDone(t, api.Inst{Op: op, Rs1: 6, Rs2: 0, Imm: imm}, from, next(from))
				wantData(t, s, off, n, 0)
				s = wantDone(t, api.Inst{Op: op, Rs1: 6, Rs2: 6, Imm: imm}, from, next(from))
				wantData(t, s, off, n, data+uint64(off-imm))
			}
		}
	}
}

// wantData holds the data against what it was at first, but for n bytes of w at off.
func wantData(t *testing.T, s *mem.Space, off, n int, w uint64) {
	t.Helper()
	for k, b := range s.Peek(data, int(2*size)) {
		want := byte(200 - k)
		if k >= off && k < off+n {
			want = byte(w >> (8 * (k - off)))
		}
		if b != want {
			t.Fatalf("byte %d: %d, not %d", k, b, want)
		}
	}
}

func TestStoreFaults(t *testing.T) {
	widths := map[int]uint64{api.OpSb: 1, api.OpSh: 2, api.OpSw: 4, api.OpSd: 8}
	for op, n := range widths {
		s := spaceOf(wordOf(t, api.Inst{Op: op, Rs1: 6, Rs2: 7, Imm: 4}))
		for _, addr := range []uint64{0, data - 1, data + 2*size, data + 2*size + 3, code, api.Top, 1 << 63, end} {
			wantStop(t, s, with(full(), 6, addr-4), fault(api.FaultStore, addr))
		}
		if n > 1 {
			wantStop(t, s, with(full(), 6, data+2*size-n+1-4), fault(api.FaultStore, data+2*size))
		}
		s.Protect(data, size, api.ProtR)
		wantStop(t, s, with(full(), 6, data-4), fault(api.FaultStore, data))
		s.Protect(data, size, api.ProtW)
		wantStep(t, s, with(full(), 6, data-4), next(with(full(), 6, data-4)))
	}
}

// P11.1: atomic ones.

func TestAtomics(t *testing.T) {
	for op := api.OpLrW; op <= api.OpAmomaxuD; op++ {
		for _, hold := range []atom.Hold{{}, {Addr: data, Size: 4}, {Addr: data, Size: 8}, {Addr: data + 8, Size: 8}} {
			for order := range 4 {
				for _, rd := range []int{0, 5, 6, 7} {
					i := api.Inst{Op: op, Rd: rd, Rs1: 6, Rs2: 7, Order: order}
					if op == api.OpLrW || op == api.OpLrD {
						i.Rs2 = 0
					}
					from := holding(with(full(), 6, data, 7, 0x8000000012345678), hold)
					twin := spaceOf()
					got, then, stop := atom.Step(twin, hold, op, data, from.X[i.Rs2])
					if stop != (api.Stop{}) {
						t.Fatalf("operator %d: %+v", op, stop)
					}
					want := holding(with(next(from), uint64(rd), got), then)
					want.X[0] = 0
					s := wantDone(t, i, from, want)
					if g, w := get(s, data, 8), get(twin, data, 8); g != w {
						t.Errorf("operator %d: %#x, not %#x", op, g, w)
					}
				}
			}
		}
	}
}

func TestAtomicStops(t *testing.T) {
	for op := api.OpLrW; op <= api.OpAmomaxuD; op++ {
		i := api.Inst{Op: op, Rd: 5, Rs1: 6, Rs2: 7}
		first := api.FaultLoad
		switch op {
		case api.OpLrW, api.OpLrD:
			i.Rs2 = 0
		case api.OpScW, api.OpScD:
			first = api.FaultStore
		}
		s := spaceOf(wordOf(t, i))
		for _, addr := range []uint64{0, data + 2*size, api.Top} {
			wantStop(t, s, with(full(), 6, addr), fault(first, addr))
		}
		for _, addr := range []uint64{data + 1, data + 2, 3, end} {
			wantStop(t, s, with(full(), 6, addr), api.Stop{Kind: api.StopAlign, Fault: api.Fault{Addr: addr}})
		}
		if i.Rs2 != 0 {
			s.Protect(data, size, api.ProtR)
			wantStop(t, s, with(full(), 6, data), fault(api.FaultStore, data))
		}
	}
}

// What is held outlasts what neither is atomic nor stops.
func TestHoldStays(t *testing.T) {
	hold := atom.Hold{Addr: data + 16, Size: 4}
	from := holding(with(full(), 6, data+16, 7, 3), hold)
	for _, i := range []api.Inst{
		{Op: api.OpAddi, Rd: 5, Rs1: 6}, {Op: api.OpLui, Rd: 5, Imm: 4096}, {Op: api.OpAuipc, Rd: 5}, {Op: api.OpJal, Rd: 5, Imm: 8},
		{Op: api.OpJalr, Rd: 5, Rs1: 6}, {Op: api.OpBeq, Imm: 8}, {Op: api.OpLd, Rd: 5, Rs1: 6}, {Op: api.OpSd, Rs1: 6, Rs2: 7},
		{Op: api.OpFence}, {Op: api.OpFenceI}, {Op: api.OpAmoaddW, Rd: 5, Rs1: 6, Rs2: 7},
	} {
		h := machine(spaceOf(wordOf(t, i)), from)
		if stop := h.Step(); stop != (api.Stop{}) || h.State().Hold != hold {
			t.Errorf("%+v: %+v, held %+v", i, stop, h.State().Hold)
		}
	}
}

// P11.1: fences, calls, breaks, and what is no instruction.

func TestFences(t *testing.T) {
	for _, w := range []uint32{0x0ff0000f, 0x0000100f, 0x8330000f, 0x0000000f, 0xffff8f8f, 0xffff9f8f} {
		s := spaceOf(w)
		was := string(s.Peek(0, 1<<16))
		wantStep(t, s, full(), next(full()))
		if string(s.Peek(0, 1<<16)) != was {
			t.Error("a fence changes bytes")
		}
	}
}

func TestCallAndBreak(t *testing.T) {
	wantStop(t, spaceOf(0x00000073), full(), api.Stop{Kind: api.StopEcall})
	wantStop(t, spaceOf(0x00100073), full(), api.Stop{Kind: api.StopBreak})
	wantStop(t, spaceOf(shortStop), full(), api.Stop{Kind: api.StopBreak})
}

func TestNoInstruction(t *testing.T) {
	for _, w := range []uint32{0, 0x0000007f, 0xffffffff, 0x00200073, 0x30200073, 0x1000202f | 1<<20} {
		stop := api.Stop{Kind: api.StopIllegal, Fault: api.Fault{Kind: api.FaultFetch, Addr: code}}
		wantStop(t, spaceOf(w), full(), stop)
	}
}

func TestFetchFaults(t *testing.T) {
	s := spaceOf()
	put(s, code+size-2, 2, 0x0093)
	wantStop(t, s, at(full(), code+size-2), fault(api.FaultFetch, code+size))
	for _, pc := range []uint64{0, code + 1, code - 2, code + size, data, api.Top, api.Top - 2, 1 << 63, end, end - 1} {
		wantStop(t, s, at(full(), pc), fault(api.FaultFetch, pc))
	}
	s.Protect(code, size, rw)
	wantStop(t, s, full(), fault(api.FaultFetch, code))
}

// P11.1: short instructions go on by 2.

func TestShort(t *testing.T) {
	wantStep(t, spaceOf(shortAddi), full(), at(with(full(), 10, 1), code+2))
	wantStep(t, spaceOf(0x37fd), full(), at(with(full(), 15, 0x0f0f0f0e), code+2)) // addiw x15, x15, -1
	wantStep(t, spaceOf(0xa011), full(), at(full(), code+4))                       // jal x0, 4
	wantStep(t, spaceOf(shortJump), with(full(), 5, data+3), at(with(full(), 5, data+3), data+2))
	wantStep(t, spaceOf(shortLink), with(full(), 5, data+3), at(with(full(), 5, data+3, 1, code+2), data+2))
	wantStep(t, spaceOf(0x9082), with(full(), 1, data), at(with(full(), 1, code+2), data)) // jalr x1, 0, x1
	wantStep(t, spaceOf(0xc011), with(full(), 8, 0), at(with(full(), 8, 0), code+4))       // beq x8, x0, 4
	wantStep(t, spaceOf(0xc011), full(), at(full(), code+2))
	wantStep(t, spaceOf(0x4402), with(full(), 2, data), at(with(full(), 2, data, 8, 0xffffffffc5c6c7c8), code+2)) // lw x8, 0, x2
	s := spaceOf(0xe01a)                                                                                          // sd x6, 0, x2
	wantStep(t, s, with(full(), 2, data), at(with(full(), 2, data), code+2))
	wantData(t, s, 0, 8, 0x0606060606060606)
}

// The last instruction of a page, and one over two pages.
func TestEdgesOfPages(t *testing.T) {
	s := spaceOf()
	put(s, code+size-4, 4, uint64(wordOf(t, api.Inst{Op: api.OpAddi, Rd: 5, Imm: 9})))
	wantStep(t, s, at(full(), code+size-4), at(with(full(), 5, 9), code+size))
	s.Map(code+size, size, x, true)
	put(s, code+size-2, 4, uint64(wordOf(t, api.Inst{Op: api.OpAuipc, Rd: 5, Imm: 4096})))
	wantStep(t, s, at(full(), code+size-2), at(with(full(), 5, code+2*size-2), code+size+2))
}

// Every register is read, and written, but that of number 0.
func TestEveryRegister(t *testing.T) {
	for n := range 32 {
		want := next(with(full(), uint64(n), full().X[31]+full().X[30]))
		want.X[0] = 0
		wantDone(t, api.Inst{Op: api.OpAdd, Rd: n, Rs1: 31, Rs2: 30}, full(), want)
		wantDone(t, api.Inst{Op: api.OpAdd, Rd: 5, Rs1: n}, full(), next(with(full(), 5, full().X[n])))
		wantDone(t, api.Inst{Op: api.OpAdd, Rd: 5, Rs2: n}, full(), next(with(full(), 5, full().X[n])))
	}
}

// P11.1: an instruction is done as it is now, whatever was there.

func TestCodeThatIsWritten(t *testing.T) {
	one := wordOf(t, api.Inst{Op: api.OpAddi, Rd: 5, Imm: 1})
	two := wordOf(t, api.Inst{Op: api.OpAddi, Rd: 5, Imm: 2})
	for _, c := range []*cache.Cache{nil, cache.New(true)} {
		s := spaceOf(one, wordOf(t, api.Inst{Op: api.OpSw, Rs1: 6, Rs2: 7, Imm: -4}), wordOf(t, api.Inst{Op: api.OpJal, Imm: -8}))
		s.Protect(code, size, rw|x)
		h := New(s, c)
		h.Set(with(full(), 6, code+4, 7, uint64(two)))
		for _, want := range []uint64{1, 1, 1, 2, 2} {
			h.Step()
			if got := h.State().X[5]; got != want {
				t.Errorf("%d, not %d", got, want)
			}
		}
	}
}

// What was decoded is kept in the cache that was handed in; else it were of no use.
func TestCacheIsUsed(t *testing.T) {
	c := cache.New(true)
	h := New(spaceOf(0x05d00513, 0x05d00513), c)
	h.Set(full())
	for n := range 2 {
		h.Step()
		if c.Len() != n+1 {
			t.Errorf("Len %d, not %d", c.Len(), n+1)
		}
	}
}

// P11.2: Run.

func wantRun(t *testing.T, h *Hart, fuel int, stop api.Stop, used int) {
	t.Helper()
	if gotStop, gotUsed := h.Run(fuel); gotStop != stop || gotUsed != used {
		t.Errorf("Run(%d): %+v %d, not %+v %d", fuel, gotStop, gotUsed, stop, used)
	}
}

func TestRunTillAStop(t *testing.T) {
	h := machine(spaceOf(0x05d00513, 0x00000073), State{PC: code})
	wantRun(t, h, 5, api.Stop{Kind: api.StopEcall}, 1)
	there := State{PC: code + 4}
	there.X[10] = 93
	wantState(t, h, there)
	wantRun(t, h, 5, api.Stop{Kind: api.StopEcall}, 0)
	wantState(t, h, there)
}

func TestRunTillFuelIsGone(t *testing.T) {
	words := make([]uint32, 10)
	for n := range words {
		words[n] = wordOf(t, api.Inst{Op: api.OpAddi, Rd: 5, Rs1: 5, Imm: 1})
	}
	for fuel := range 10 {
		h := machine(spaceOf(words...), full())
		wantRun(t, h, fuel, api.Stop{Kind: api.StopFuel}, fuel)
		n := uint64(fuel)
		// Fuel that is gone is no stop of a Step: what is held stays.
		wantState(t, h, at(with(full(), 5, full().X[5]+n), code+4*n))
		wantRun(t, h, 10-fuel, api.Stop{Kind: api.StopFuel}, 10-fuel)
		wantState(t, h, at(with(full(), 5, full().X[5]+10), code+40))
	}
}

// A stop that fuel does not reach is not told.
func TestFuelAheadOfAStop(t *testing.T) {
	for _, last := range []uint32{0x00000073, 0x00100073, 0, wordOf(t, api.Inst{Op: api.OpSb})} {
		h := machine(spaceOf(0x05d00513, last), full())
		wantRun(t, h, 1, api.Stop{Kind: api.StopFuel}, 1)
		wantState(t, h, at(with(full(), 10, 93), code+4))
	}
}

func TestRunOfNoFuel(t *testing.T) {
	for _, fuel := range []int{0, -1, -100, math.MinInt} {
		for _, w := range []uint32{0x05d00513, 0x00000073, 0} {
			h := machine(spaceOf(w), full())
			wantRun(t, h, fuel, api.Stop{Kind: api.StopFuel}, 0)
			wantState(t, h, full())
		}
	}
}

func TestRunOfEveryStop(t *testing.T) {
	stops := map[uint32]api.Stop{
		0x00000073:                        {Kind: api.StopEcall},
		0x00100073:                        {Kind: api.StopBreak},
		0:                                 {Kind: api.StopIllegal, Fault: api.Fault{Kind: api.FaultFetch, Addr: code + 8}},
		wordOf(t, api.Inst{Op: api.OpSb}): fault(api.FaultStore, 0),
		wordOf(t, api.Inst{Op: api.OpLd}): fault(api.FaultLoad, 0),
		wordOf(t, api.Inst{Op: api.OpLrW, Rs1: 1}):                 {Kind: api.StopAlign, Fault: api.Fault{Addr: full().X[1]}},
		wordOf(t, api.Inst{Op: api.OpAmoaddD, Rd: 3, Rs1: 1}):      {Kind: api.StopAlign, Fault: api.Fault{Addr: full().X[1]}},
		wordOf(t, api.Inst{Op: api.OpScD, Rd: 3, Rs1: 0, Rs2: 10}): fault(api.FaultStore, 0),
	}
	for w, stop := range stops {
		h := machine(spaceOf(0x05d00513, 0x05d00593, w), full())
		wantRun(t, h, math.MaxInt, stop, 2)
		wantState(t, h, holding(at(with(full(), 10, 93, 11, 93), code+8), atom.Hold{}))
	}
}

func TestRunOfMuchFuel(t *testing.T) {
	h := machine(spaceOf(wordOf(t, api.Inst{Op: api.OpJal})), full())
	wantRun(t, h, api.MaxFuel/8, api.Stop{Kind: api.StopFuel}, api.MaxFuel/8)
	wantState(t, h, full())
}

// Two machines of one space see each other's stores, and have states of their own.
func TestTwoMachinesOfOneSpace(t *testing.T) {
	s := spaceOf(wordOf(t, api.Inst{Op: api.OpAmoaddW, Rd: 5, Rs1: 6, Rs2: 7}))
	c := cache.New(true)
	s.Put(data, make([]byte, 8))
	for n := range uint64(3) {
		h := New(s, c)
		h.Set(with(full(), 6, data, 7, 1))
		h.Step()
		wantState(t, h, next(with(full(), 6, data, 7, 1, 5, n)))
	}
}
