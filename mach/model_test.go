package mach_test

import (
	"fmt"
	"testing"

	"machine/api"
	"machine/isa"
	"machine/mach"
)

// A model of a hart between two steps, as the document tells it, with whole tables where the program has its own ways. It is read from what Show tells.
type model struct {
	csr         map[int]int // those that Show tells; of mip what was written of it
	x           [32]int
	pc, mode    int
	waits       bool
	reservation string
	lines       int // the bits of mip that the devices hold up
	time        [2]int
	ram         []byte
}

// masks are the bits that a CSR keeps.
var masks = map[int]int{
	api.CsrMstatus: 0x7e19aa, api.CsrMedeleg: 0xb3ff, api.CsrMideleg: 0x222, api.CsrMie: 0xaaa, api.CsrMip: 0x222,
	api.CsrMtvec: 0xfffffffd, api.CsrStvec: 0xfffffffd, api.CsrMepc: 0xfffffffe, api.CsrSepc: 0xfffffffe,
	api.CsrMcounteren: 7, api.CsrScounteren: 7, api.CsrMcountinhibit: 5,
	api.CsrMscratch: 0xffffffff, api.CsrSscratch: 0xffffffff, api.CsrMcause: 0xffffffff, api.CsrScause: 0xffffffff,
	api.CsrMtval: 0xffffffff, api.CsrStval: 0xffffffff, api.CsrSatp: 0xffffffff,
	api.CsrMcycle: 0xffffffff, api.CsrMcycleh: 0xffffffff, api.CsrMinstret: 0xffffffff, api.CsrMinstreth: 0xffffffff,
}

func modelOf(m *mach.Machine) *model {
	s := m.Show()
	ram, _ := m.Peek(0, m.Size())
	o := &model{csr: map[int]int{}, pc: wordAt(s, 0), mode: int(s[modeAt]), waits: s[waitsAt] == 'w', reservation: s[reservedAt:modeAt], ram: []byte(ram)}
	for i := range o.x {
		o.x[i] = wordAt(s, 4+4*i)
	}
	for k, n := range shownCsrs() {
		o.csr[n] = wordAt(s, csrsAt+4*k)
	}
	d := s[devicesAt:]
	o.time = [2]int{wordAt(d, 1), wordAt(d, 5)}
	o.lines = int(d[0]) * msoft
	if uint64(o.time[0])+uint64(o.time[1])<<32 >= uint64(wordAt(d, 9))+uint64(wordAt(d, 13))<<32 {
		o.lines |= mtime
	}
	enable, lost, received := d[17], d[19] == '!', int(d[20])
	room := int(d[21+received]) < api.MaxTx
	if enable&4 != 0 && lost || enable&1 != 0 && received > 0 || enable&2 != 0 && room {
		o.lines |= mext | sext
	}
	return o
}

// shown tells what Show is to say of the hart.
func (o *model) shown() string {
	s := four(o.pc) + four(o.x[:]...) + map[bool]string{true: "w", false: "-"}[o.waits] + o.reservation + string(rune(o.mode))
	for _, n := range shownCsrs() {
		s += four(o.csr[n])
	}
	return s
}

func (o *model) status(bit int) bool { return o.csr[api.CsrMstatus]&bit != 0 }

// copyBit lets one bit of mstatus become what another is.
func (o *model) copyBit(to int, from int) {
	so := o.status(from)
	o.csr[api.CsrMstatus] &^= to
	if so {
		o.csr[api.CsrMstatus] |= to
	}
}

func (o *model) read(n int) int {
	mip := o.csr[api.CsrMip] | o.lines
	switch n {
	case api.CsrSstatus:
		return o.csr[api.CsrMstatus] & 0xc0122
	case api.CsrSie:
		return o.csr[api.CsrMie] & o.csr[api.CsrMideleg]
	case api.CsrSip:
		return mip & o.csr[api.CsrMideleg]
	case api.CsrMip:
		return mip
	case api.CsrMisa:
		return 0x40141105
	case api.CsrTime, api.CsrTimeh:
		return o.time[n>>7&1]
	case api.CsrCycle, api.CsrCycleh, api.CsrInstret, api.CsrInstreth:
		return o.csr[n-0x100]
	}
	return o.csr[n]
}

func (o *model) write(n int, v int) {
	in := func(to int, mask int) { o.csr[to] = o.csr[to]&^mask | v&mask }
	switch n {
	case api.CsrSstatus:
		in(api.CsrMstatus, 0xc0122)
	case api.CsrSie:
		in(api.CsrMie, o.csr[api.CsrMideleg])
	case api.CsrSip:
		in(api.CsrMip, o.csr[api.CsrMideleg]&ssoft)
	case api.CsrMstatus:
		mask := masks[n]
		if v&mpp == 1<<12 {
			mask &^= mpp
		}
		in(n, mask)
	default:
		if mask, ok := masks[n]; ok {
			in(n, mask)
		}
	}
}

// trap takes a trap; the cause of an interrupt has bit 31.
func (o *model) trap(cause int, tval int) {
	deleg := o.csr[api.CsrMedeleg]
	if cause>>31 == 1 {
		deleg = o.csr[api.CsrMideleg]
	}
	to, enable, previous, first := api.Mach, mie, mpie, 0x300
	if o.mode < api.Mach && deleg>>(cause&31)&1 == 1 {
		to, enable, previous, first = api.Super, sie, spie, 0x100
		o.csr[api.CsrMstatus] = o.csr[api.CsrMstatus]&^spp | o.mode<<8
	} else {
		o.csr[api.CsrMstatus] = o.csr[api.CsrMstatus]&^mpp | o.mode<<11
	}
	o.copyBit(previous, enable)
	o.csr[api.CsrMstatus] &^= enable
	o.csr[first+0x41], o.csr[first+0x42], o.csr[first+0x43] = o.pc, cause, tval
	tvec := o.csr[first+0x05]
	o.mode, o.pc = to, tvec&0xfffffffc
	if cause>>31 == 1 && tvec&1 == 1 {
		o.pc = (o.pc + 4*(cause&31)) & 0xffffffff
	}
}

// interrupt tells the interrupt that is to be taken, or -1.
func (o *model) interrupt() int {
	both := o.read(api.CsrMip) & o.csr[api.CsrMie]
	for _, level := range []int{api.Mach, api.Super} {
		bits, open := both&^o.csr[api.CsrMideleg], o.mode < api.Mach || o.status(mie)
		if level == api.Super {
			bits, open = both&o.csr[api.CsrMideleg], o.mode == api.User || o.mode == api.Super && o.status(sie)
		}
		for _, n := range []int{11, 3, 7, 9, 1, 5} {
			if open && bits>>n&1 == 1 {
				return n
			}
		}
	}
	return -1
}

// may tells whether an instruction of P13 or P14 may be.
func (o *model) may(i api.Ins) bool {
	switch i.Op {
	case api.Mret:
		return o.mode == api.Mach
	case api.Sret:
		return o.mode == api.Mach || o.mode == api.Super && !o.status(tsr)
	case api.Wfi:
		return o.mode == api.Mach || o.mode == api.Super && !o.status(tw)
	case api.SfenceVma:
		return o.mode == api.Mach || o.mode == api.Super && !o.status(tvm)
	}
	n, bit := i.Imm, 1<<(i.Imm%32)
	return isCsr(n) && n>>8&3 <= o.mode && !(n>>10 == 3 && writes(i)) &&
		!(n == api.CsrSatp && o.mode == api.Super && o.status(tvm)) &&
		!(n>>8 == 0xc && o.mode < api.Mach && o.csr[api.CsrMcounteren]&bit == 0) &&
		!(n>>8 == 0xc && o.mode == api.User && o.csr[api.CsrScounteren]&bit == 0)
}

// writes tells whether an instruction of a CSR writes it.
func writes(i api.Ins) bool {
	return i.Op == api.Csrrw || i.Op == api.Csrrwi || i.Rs1 != 0
}

// change carries out an instruction of a CSR that may be.
func (o *model) change(i api.Ins) {
	was, operand := o.read(i.Imm), i.Rs1
	if i.Op <= api.Csrrc {
		operand = o.x[i.Rs1]
	}
	o.setReg(i.Rd, was)
	if !writes(i) {
		return
	}
	if i.Imm == api.CsrMip {
		was = was&^sext | o.csr[api.CsrMip]&sext
	}
	switch (i.Op - api.Csrrw) % 3 {
	case 0:
		was = operand
	case 1:
		was |= operand
	case 2:
		was &^= operand
	}
	o.write(i.Imm, was)
}

// leave carries out mret or sret, but for pc.
func (o *model) leave(op int) {
	enable, previous, to := mie, mpie, o.csr[api.CsrMstatus]>>11&3
	if op == api.Sret {
		enable, previous, to = sie, spie, o.csr[api.CsrMstatus]>>8&1
		o.csr[api.CsrMstatus] &^= spp
	} else {
		o.csr[api.CsrMstatus] &^= mpp
	}
	o.copyBit(enable, previous)
	o.csr[api.CsrMstatus] |= previous
	if to != api.Mach {
		o.csr[api.CsrMstatus] &^= mprv
	}
	o.mode = to
	o.reservation = nothingReserved
}

// setReg lays a number into a register.
func (o *model) setReg(i int, v int) {
	if i != 0 {
		o.x[i] = v & 0xffffffff
	}
}

// instruct carries out the word at pc: one of P11, P13 or P14, addi, jalr, ecall, ebreak or one that means nothing. It tells that word, and the exception's cause, or -1.
func (o *model) instruct() (api.Ins, int) {
	fault := func(cause int, tval int) (api.Ins, int) {
		o.trap(cause, tval)
		return api.Ins{}, cause
	}
	w, cause, tval := o.fetch()
	if cause >= 0 {
		return fault(cause, tval)
	}
	i, _ := isa.Decode(w)
	next := o.pc + i.Len
	switch {
	case i.Op == api.Addi:
		o.setReg(i.Rd, o.x[i.Rs1]+i.Imm)
	case i.Op == api.Jalr:
		next = (o.x[i.Rs1] + i.Imm) &^ 1
		o.setReg(i.Rd, o.pc+i.Len)
	case i.Op >= api.Lb && i.Op <= api.Sw || i.Op >= api.LrW && i.Op <= api.AmoMaxu:
		if cause, tval := o.access(i); cause >= 0 {
			return fault(cause, tval)
		}
	case i.Op == api.Ecall:
		return fault(8+o.mode, 0)
	case i.Op == api.Ebreak:
		return fault(3, o.pc)
	case i.Op < api.Csrrw || !o.may(i):
		return fault(2, w)
	case i.Op <= api.Csrrci:
		o.change(i)
	case i.Op == api.Mret:
		next = o.csr[api.CsrMepc]
		o.leave(i.Op)
	case i.Op == api.Sret:
		next = o.csr[api.CsrSepc]
		o.leave(i.Op)
	case i.Op == api.Wfi:
		o.waits = true
	}
	o.pc = next & 0xffffffff
	return i, -1
}

// count lets a counter go on.
func (o *model) count(n int) {
	v := uint64(o.csr[n]) + uint64(o.csr[n+0x80])<<32 + 1
	o.csr[n], o.csr[n+0x80] = int(uint32(v)), int(v>>32)
}

// step does a step.
func (o *model) step() api.Did {
	held := o.csr[api.CsrMcountinhibit]
	did := api.Did{Kind: api.Idle}
	if !o.waits || o.read(api.CsrMip)&o.csr[api.CsrMie] != 0 {
		o.waits = false
		if n := o.interrupt(); n >= 0 {
			o.trap(1<<31+n, 0)
			did = api.Did{Kind: api.Interrupt, Cause: n}
		} else {
			i, cause := o.instruct()
			did = api.Did{Kind: api.Retired}
			if cause >= 0 {
				did = api.Did{Kind: api.Exception, Cause: cause}
			}
			held |= countersOf(i)
		}
	}
	if held&1 == 0 {
		o.count(api.CsrMcycle)
	}
	if did.Kind == api.Retired && held&4 == 0 {
		o.count(api.CsrMinstret)
	}
	return did
}

// countersOf tells those that an instruction writes, as bits of mcountinhibit.
func countersOf(i api.Ins) int {
	if i.Op < api.Csrrw || i.Op > api.Csrrci || !writes(i) {
		return 0
	}
	return map[int]int{api.CsrMcycle: 1, api.CsrMcycleh: 1, api.CsrMinstret: 4, api.CsrMinstreth: 4}[i.Imm]
}

// unlike tells the words in which two RAMs differ.
func unlike(got string, want string) string {
	s := ""
	for at := 0; at+4 <= len(got); at += 4 {
		if got[at:at+4] != want[at:at+4] {
			s += fmt.Sprintf(" at %#x %#x, want %#x;", at, wordAt(got, at), wordAt(want, at))
		}
	}
	return s
}

// follows does a step that must do what the model of the machine does.
func follows(t *testing.T, m *mach.Machine) api.Did {
	t.Helper()
	before := m.Show()
	o := modelOf(m)
	if o.shown() != before[:devicesAt] {
		t.Fatalf("the model does not read Show: % x", before)
	}
	want := o.step()
	got := m.Step()
	after := m.Show()
	if ram := peek(t, m, 0, m.Size()); ram != string(o.ram) {
		t.Fatalf("at %#x in mode %d: %v, want %v\nRAM: %s", wordAt(before, 0), before[modeAt], got, want, unlike(ram, string(o.ram)))
	}
	if got != want || after[:devicesAt] != o.shown() || after[devicesAt:] != before[devicesAt:] {
		p := modelOf(m)
		t.Fatalf("at %#x in mode %d: %v, want %v\npc %#x, want %#x, mode %d, want %d\nCSRs %x\nwant %x", wordAt(before, 0), before[modeAt], got, want, p.pc, o.pc, p.mode, o.mode, p.csr, o.csr)
	}
	return got
}
