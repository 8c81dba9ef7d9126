package hart

import (
	"marionette/alu"
	"marionette/api"
	"marionette/atom"
	"marionette/cache"
	"marionette/mem"
	"marionette/word"
)

// step makes t the state behind the instruction where it is; what t is beside a stop is of no use.
func (t *State) step(s *mem.Space, c *cache.Cache) api.Stop {
	i, stop := c.Fetch(s, t.PC)
	if stop.Kind != api.StopNone {
		return stop
	}
	return t.do(s, i)
}

// do does the instruction i where t is.
func (t *State) do(s *mem.Space, i api.Inst) api.Stop {
	here := t.PC
	t.PC = here + uint64(i.Size)
	switch op := i.Op; {
	case op == api.OpAuipc:
		t.put(i.Rd, here+uint64(i.Imm))
	case op == api.OpJal:
		t.jump(i.Rd, here+uint64(i.Imm))
	case op == api.OpJalr:
		t.jump(i.Rd, t.place(i)&^1)
	case isBranch(op):
		t.branch(i, here)
	case isLoad(op):
		return t.load(s, i)
	case isStore(op):
		return t.store(s, i)
	case atom.Width(op) > 0:
		return t.atomic(s, i)
	case op == api.OpFence || op == api.OpFenceI:
		// One machine alone does all in order, and a cache is never old: there is nothing to wait for.
	case op == api.OpEcall:
		return api.Stop{Kind: api.StopEcall}
	case op == api.OpEbreak:
		return api.Stop{Kind: api.StopBreak}
	default:
		t.reckon(i)
	}
	return api.Stop{}
}

// put lays x into a register. That of number 0 takes nothing.
func (t *State) put(rd int, x uint64) {
	if rd != 0 {
		t.X[rd] = x
	}
}

// place is where a load, a store or a jump by a register leads.
func (t *State) place(i api.Inst) uint64 {
	return t.X[i.Rs1] + uint64(i.Imm)
}

// jump goes on at to, and leaves in rd where it would have gone on else.
func (t *State) jump(rd int, to uint64) {
	t.put(rd, t.PC)
	t.PC = to
}

// branch goes on at the place that i, which is here, leads to, if it is taken.
func (t *State) branch(i api.Inst, here uint64) {
	if taken, _ := alu.Taken(i.Op, t.X[i.Rs1], t.X[i.Rs2]); taken {
		t.PC = here + uint64(i.Imm)
	}
}

// load loads into a register, filled by the sign where i is one of those with a sign.
func (t *State) load(s *mem.Space, i api.Inst) api.Stop {
	n := loadBytes(i.Op)
	x, f := s.Load(t.place(i), n)
	if f.Kind != 0 {
		return faulty(f)
	}
	if i.Op <= api.OpLd {
		x = word.Sext(x, 8*n)
	}
	t.put(i.Rd, x)
	return api.Stop{}
}

// store stores a register.
func (t *State) store(s *mem.Space, i api.Inst) api.Stop {
	if f := s.Store(t.place(i), storeBytes(i.Op), t.X[i.Rs2]); f.Kind != 0 {
		return faulty(f)
	}
	return api.Stop{}
}

// atomic loads and stores in one, and changes what is held.
func (t *State) atomic(s *mem.Space, i api.Inst) api.Stop {
	x, then, stop := atom.Step(s, t.Hold, i.Op, t.X[i.Rs1], t.X[i.Rs2])
	if stop.Kind != api.StopNone {
		return stop
	}
	t.put(i.Rd, x)
	t.Hold = then
	return api.Stop{}
}

// reckon does what hangs on registers and on the immediate alone.
func (t *State) reckon(i api.Inst) {
	b := t.X[i.Rs2]
	if takesImm(i.Op) {
		b = uint64(i.Imm)
	}
	x, _ := alu.Do(i.Op, t.X[i.Rs1], b)
	t.put(i.Rd, x)
}

// faulty is a stop by a place that may not be used so.
func faulty(f api.Fault) api.Stop {
	return api.Stop{Kind: api.StopFault, Fault: f}
}
