package mach_test

import (
	"testing"

	"machine/api"
	"machine/mach"
)

// sizes tells how many bytes an instruction reads or writes.
func sizes(op int) int {
	return map[int]int{api.Lb: 1, api.Lbu: 1, api.Sb: 1, api.Lh: 2, api.Lhu: 2, api.Sh: 2, api.Lw: 4, api.Sw: 4}[op]
}

// loaded tells what an instruction makes of bytes.
func loaded(op int, s string) int {
	v := uint32(0)
	for k := range sizes(op) {
		v |= uint32(s[k]) << (8 * k)
	}
	switch op {
	case api.Lb:
		return int(uint32(int32(int8(v))))
	case api.Lh:
		return int(uint32(int32(int16(v))))
	}
	return int(v)
}

// filled tells a machine full of bytes that stands at place 16, at an instruction, with numbers in x1 and x2.
func filled(t *testing.T, size int, i api.Ins, a int, b int) *mach.Machine {
	t.Helper()
	m := made(t, size)
	s := []byte{}
	for k := range size {
		s = append(s, byte(k*37+k>>8*11+128))
	}
	lay(t, m, 0, string(s))
	lay(t, m, 0, setter(t, 1, a)+setter(t, 2, b)+wordOf(t, i))
	retire(t, m, 4)
	return m
}

func TestLoads(t *testing.T) {
	for op := api.Lb; op <= api.Lhu; op++ {
		for off := 64; off < 80; off++ {
			for _, imm := range []int{0, 1, -1, 5, 2047, -2048} {
				m := filled(t, 128, api.Ins{Op: op, Rd: 3, Rs1: 1, Imm: imm, Len: 4}, base+off-imm, 0)
				ram := peek(t, m, 0, 128)
				retire(t, m, 1)
				if got, want := reg(t, m, 3), loaded(op, ram[off:]); got != want {
					t.Errorf("%s at %d: %#x, want %#x", api.Name(op), off, got, want)
				}
				wantPc(t, m, base+20)
				wantRam(t, m, 0, ram)
			}
		}
	}
}

func TestLoadsKeepTheirSign(t *testing.T) {
	for _, c := range []struct {
		op    int
		bytes string
		want  int
	}{
		{api.Lb, "\x7f\xff\xff\xff", 0x7f}, {api.Lb, "\x80\x00\x00\x00", 0xffffff80}, {api.Lb, "\xff\x00\x00\x00", 0xffffffff}, {api.Lb, "\x00\xff\xff\xff", 0},
		{api.Lbu, "\x7f\xff\xff\xff", 0x7f}, {api.Lbu, "\x80\x00\x00\x00", 0x80}, {api.Lbu, "\xff\x00\x00\x00", 0xff},
		{api.Lh, "\xff\x7f\xff\xff", 0x7fff}, {api.Lh, "\x00\x80\x00\x00", 0xffff8000}, {api.Lh, "\xff\xff\x00\x00", 0xffffffff}, {api.Lh, "\x80\x00\xff\xff", 0x80},
		{api.Lhu, "\xff\x7f\xff\xff", 0x7fff}, {api.Lhu, "\x00\x80\x00\x00", 0x8000}, {api.Lhu, "\xff\xff\x00\x00", 0xffff},
		{api.Lw, "\xff\xff\xff\x7f", 0x7fffffff}, {api.Lw, "\x00\x00\x00\x80", 0x80000000}, {api.Lw, "\x01\x02\x03\x04", 0x04030201}, {api.Lw, "\xff\xff\xff\xff", 0xffffffff},
	} {
		m := filled(t, 128, api.Ins{Op: c.op, Rd: 3, Rs1: 1, Len: 4}, base+77, 0)
		lay(t, m, 77, c.bytes)
		retire(t, m, 1)
		if got := reg(t, m, 3); got != c.want {
			t.Errorf("%s of % x: %#x, want %#x", api.Name(c.op), c.bytes, got, c.want)
		}
	}
}

func TestStores(t *testing.T) {
	v := 0x89abcdef
	for op := api.Sb; op <= api.Sw; op++ {
		for off := 64; off < 80; off++ {
			for _, imm := range []int{0, 1, -1, 5, 2047, -2048} {
				m := filled(t, 128, api.Ins{Op: op, Rs1: 1, Rs2: 2, Imm: imm, Len: 4}, base+off-imm, v)
				ram := peek(t, m, 0, 128)
				retire(t, m, 1)
				wantRam(t, m, 0, ram[:off]+four(v)[:sizes(op)]+ram[off+sizes(op):])
				wantPc(t, m, base+20)
				wantReg(t, m, 1, (base+off-imm)&0xffffffff)
				wantReg(t, m, 2, v)
			}
		}
	}
}

func TestALoadMayOverwriteItsAddress(t *testing.T) {
	m := filled(t, 128, api.Ins{Op: api.Lw, Rd: 1, Rs1: 1, Imm: 4, Len: 4}, base+64, 0)
	retire(t, m, 1)
	wantReg(t, m, 1, loaded(api.Lw, peek(t, m, 68, 4)))
	m = filled(t, 128, api.Ins{Op: api.Sw, Rs1: 1, Rs2: 1, Imm: 4, Len: 4}, base+64, 0)
	retire(t, m, 1)
	wantRam(t, m, 68, four(base+64))
}

// Accesses across pages that lie in RAM whole.
func TestAccessesAcrossPages(t *testing.T) {
	for off := 4090; off < 4100; off++ {
		for op := api.Lb; op <= api.Lhu; op++ {
			m := filled(t, 8192, api.Ins{Op: op, Rd: 3, Rs1: 1, Len: 4}, base+off, 0)
			ram := peek(t, m, 0, 8192)
			retire(t, m, 1)
			if got, want := reg(t, m, 3), loaded(op, ram[off:]); got != want {
				t.Errorf("%s at %d: %#x, want %#x", api.Name(op), off, got, want)
			}
		}
		for op := api.Sb; op <= api.Sw; op++ {
			m := filled(t, 8192, api.Ins{Op: op, Rs1: 1, Rs2: 2, Len: 4}, base+off, 0x89abcdef)
			ram := peek(t, m, 0, 8192)
			retire(t, m, 1)
			if got := peek(t, m, 0, 8192); got != ram[:off]+four(0x89abcdef)[:sizes(op)]+ram[off+sizes(op):] {
				t.Errorf("%s at %d: RAM has % x from 4088 on", api.Name(op), off, got[4088:4104])
			}
		}
	}
}

// faults carries out an access that must meet a fault and change nothing but what the trap changes.
func faults(t *testing.T, size int, i api.Ins, address int, cause int, tval int) {
	t.Helper()
	m := filled(t, size, i, address, 0x89abcdef)
	m.Feed("ab")
	ram := peek(t, m, 0, size)
	before := m.Show()
	meets(t, m, cause, tval)
	wantRam(t, m, 0, ram)
	after := m.Show()
	if after[4:140] != before[4:140] || after[232:] != before[232:] {
		t.Errorf("%s at %#x changes something", api.Name(i.Op), address)
	}
	if t.Failed() {
		t.Fatalf("RAM of %d, %s at %#x", size, api.Name(i.Op), address)
	}
}

// portionAt tells the address of the portion that meets the fault, of an access of n bytes that is not whole in RAM.
func portionAt(address int, n int, size int) int {
	end := address + n
	if page := address&^0xfff + 0x1000; page < end && address >= base && page <= base+size {
		return page
	}
	return address
}

func TestAccessesBeyondRam(t *testing.T) {
	for _, size := range []int{128, 130, 4095, 4096, 4097, 4098, 4099, 8192, api.MaxRam} {
		for op := api.Lb; op <= api.Sw; op++ {
			i, cause := api.Ins{Op: op, Rd: 3, Rs1: 1, Len: 4}, 5
			if op >= api.Sb {
				i, cause = api.Ins{Op: op, Rs1: 1, Rs2: 2, Len: 4}, 7
			}
			n := sizes(op)
			m := filled(t, size, i, base+size-n, 0)
			retire(t, m, 1)
			for k := 1; k <= n+1; k++ {
				address := base + size - n + k
				faults(t, size, i, address, cause, portionAt(address, n, size))
				address = base - k
				faults(t, size, i, address, cause, address)
			}
		}
	}
}

func TestTheFirstPortionFaultsFirst(t *testing.T) {
	lw := api.Ins{Op: api.Lw, Rd: 3, Rs1: 1, Len: 4}
	sw := api.Ins{Op: api.Sw, Rs1: 1, Rs2: 2, Len: 4}
	sh := api.Ins{Op: api.Sh, Rs1: 1, Rs2: 2, Len: 4}
	for _, c := range []struct {
		size    int
		i       api.Ins
		address int
		tval    int
	}{
		{4096, lw, base + 4094, base + 4096},
		{4096, sw, base + 4094, base + 4096},
		{4096, sh, base + 4095, base + 4096},
		{4098, sw, base + 4095, base + 4096},
		{4094, sw, base + 4093, base + 4093},
		{4094, sw, base + 4094, base + 4094},
		{4095, sw, base + 4093, base + 4093},
		{4096, lw, base - 1, base - 1},
		{4096, sw, base - 3, base - 3},
		{4096, lw, 0xfffffffe, 0xfffffffe},
		{4096, sw, 0xffffffff, 0xffffffff},
		{4096, lw, 0xfffffffc, 0xfffffffc},
		{4096, lw, 0, 0},
		{4096, sh, api.PortBase - 1, api.PortBase - 1},
		{4096, lw, api.TimerBase - 2, api.TimerBase - 2},
	} {
		cause := 7
		if c.i.Op == api.Lw {
			cause = 5
		}
		faults(t, c.size, c.i, c.address, cause, c.tval)
	}
}

func TestAddressesLeaveCarriesAway(t *testing.T) {
	for _, c := range []struct{ a, imm, tval int }{
		{0xffffffff, 5, 4}, {4, -8, 0xfffffffc}, {0, -2048, 0xfffff800}, {0xfffffffe, 2047, 2045},
	} {
		faults(t, 4096, api.Ins{Op: api.Lw, Rd: 3, Rs1: 1, Imm: c.imm, Len: 4}, c.a, 5, c.tval)
		faults(t, 4096, api.Ins{Op: api.Sb, Rs1: 1, Rs2: 2, Imm: c.imm, Len: 4}, c.a, 7, c.tval)
	}
}

func TestSizesThatDevicesDoNotHave(t *testing.T) {
	for op := api.Lb; op <= api.Sw; op++ {
		i, cause := api.Ins{Op: op, Rd: 3, Rs1: 1, Len: 4}, 5
		if op >= api.Sb {
			i, cause = api.Ins{Op: op, Rs1: 1, Rs2: 2, Len: 4}, 7
		}
		for _, at := range []int{0, 0x4000, 0x4004, 0xbff8, 0xbffc} {
			for k := -3; k <= 3; k++ {
				if k == 0 && sizes(op) == 4 {
					continue
				}
				faults(t, 4096, i, api.TimerBase+at+k, cause, api.TimerBase+at+k)
			}
		}
		for _, at := range []int{0, 1, 2, 3, 4, 5, 6, 7, 8, -1, 256} {
			if sizes(op) == 1 && (at >= 0 && at <= 2 || at == 5 || at == 7) {
				continue
			}
			faults(t, 4096, i, api.PortBase+at, cause, api.PortBase+at)
		}
		for _, at := range []int{4, 8, 0x3ffc, 0x4008, 0xbff4, 0xc000} {
			faults(t, 4096, i, api.TimerBase+at, cause, api.TimerBase+at)
		}
	}
}
