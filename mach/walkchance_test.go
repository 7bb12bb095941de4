package mach_test

import (
	"math/rand"
	"testing"

	"machine/api"
	"machine/mach"
)

// chanceIndexes are those entries of tables that walks by chance use.
func chanceIndexes() []int { return []int{0, 1, 2, 0x200, 0x3ff} }

func oneOf(r *rand.Rand, from ...int) int { return from[r.Intn(len(from))] }

// chanceEntry tells an entry by chance: most of them lead to RAM, and are for a mode.
func chanceEntry(r *rand.Rand, root bool, mode int) int {
	bits := oneOf(r, pv|pr, pv|pr|pw, pv|px, pv|pr|px, pv|pr|pw|px, pv|pr|pw|px, pv|pr|pw|px) | r.Intn(2)*pa | r.Intn(2)*pd
	if (mode == api.User) != (r.Intn(8) == 0) {
		bits |= pu
	}
	page := base + 0x1000*r.Intn(8)
	switch {
	case root && r.Intn(2) == 0:
		return entryTo(base+oneOf(r, 0x2000, 0x3000), pv|r.Intn(8)/7*oneOf(r, pu, pa, pd)|r.Intn(2)*pg)
	case root:
		page = base + r.Intn(8)/7*0x1000
	case r.Intn(10) == 0:
		bits = pv
	}
	switch r.Intn(24) {
	case 0:
		return int(r.Uint32())
	case 1:
		bits &^= oneOf(r, pv, pr, pr|px)
	case 2:
		page = oneOf(r, 0, base+0x8000, base-0x1000, base|1<<32, 0x3fffff000)
	}
	return entryTo(page, bits|r.Intn(2)*pg|r.Intn(4)<<8)
}

// chanceAddress tells an address by chance, often near a page's end.
func chanceAddress(r *rand.Rand) int {
	indexes := chanceIndexes()
	address := oneOf(r, indexes...)<<22 | oneOf(r, indexes...)<<12
	switch r.Intn(4) {
	case 0:
		return address | 0xff8 | r.Intn(8)
	case 1:
		return address | r.Intn(0x1000)
	case 2:
		// Among the tables, if the page is theirs.
		return address | 4*oneOf(r, indexes...)
	}
	return address | r.Intn(0x400)*4
}

// chanceAccess tells an instruction by chance, most often a load or store, or, in mode M, one that leaves it.
func chanceAccess(r *rand.Rand, mode int) api.Ins {
	rd, address, v := r.Intn(8), r.Intn(8), r.Intn(8)
	if mode == api.Mach && r.Intn(2) == 0 {
		return api.Ins{Op: api.Mret, Len: 4}
	}
	switch r.Intn(12) {
	case 0, 1, 2:
		return api.Ins{Op: api.Lb + r.Intn(5), Rd: rd, Rs1: address, Imm: r.Intn(3) - 1, Len: 4}
	case 3, 4, 5:
		return api.Ins{Op: api.Sb + r.Intn(3), Rs1: address, Rs2: v, Imm: r.Intn(3) - 1, Len: 4}
	case 6:
		return api.Ins{Op: api.LrW, Rd: rd, Rs1: address, Imm: r.Intn(4), Len: 4}
	case 7:
		return api.Ins{Op: api.ScW + r.Intn(10), Rd: rd, Rs1: address, Rs2: v, Imm: r.Intn(4), Len: 4}
	case 8:
		return api.Ins{Op: api.Jalr, Rd: rd, Rs1: address, Len: 4}
	case 9:
		return api.Ins{Op: api.Csrrw + r.Intn(3), Rd: rd, Rs1: v, Imm: oneOf(r, api.CsrSstatus, api.CsrMstatus, api.CsrSepc, api.CsrMepc), Len: 4}
	case 10:
		return api.Ins{Op: oneOf(r, api.Mret, api.Sret, api.Ecall, api.SfenceVma), Len: 4}
	}
	return api.Ins{Op: api.Addi, Rd: rd, Rs1: 0, Imm: r.Intn(16), Len: oneOf(r, 2, 4)}
}

// chanceWorld tells a machine by chance, with tables by chance.
func chanceWorld(t *testing.T, r *rand.Rand) *mach.Machine {
	t.Helper()
	s := csrw(t, api.CsrMtvec, base+r.Intn(0x1000)&^2) + csrw(t, api.CsrStvec, chanceAddress(r)&^2) + csrw(t, api.CsrMedeleg, int(r.Uint32()))
	s += csrw(t, api.CsrSatp, oneOf(r, 1, 1, 1, 1, 1, 1, 1, 0)<<31|int(r.Uint32())&0x7fc00000|base>>12+1)
	s += csrw(t, api.CsrMepc, oneOf(r, chanceAddress(r), base+r.Intn(0x8000))) + csrw(t, api.CsrSepc, oneOf(r, chanceAddress(r), base+r.Intn(0x8000)))
	for i := 1; i < 8; i++ {
		s += setter(t, i, oneOf(r, chanceAddress(r), chanceAddress(r), base+r.Intn(0x8000), int(r.Uint32())))
	}
	mode := oneOf(r, lower()...)
	s += csrw(t, api.CsrMstatus, int(r.Uint32())&^(mie|mpp)|mode<<11)
	m := made(t, oneOf(r, 0x8000, 0x8000, 0x8000, 0x7ffe, 0x7fff))
	lay(t, m, 0, s)
	retire(t, m, len(s)/4)
	if r.Intn(4) > 0 {
		lay(t, m, m.Pc()-base, wordOf(t, api.Ins{Op: api.Mret, Len: 4}))
		retire(t, m, 1)
	}
	for _, k := range chanceIndexes() {
		lay(t, m, rootAt+4*k, four(chanceEntry(r, true, mode)))
		lay(t, m, 0x2000+4*k, four(chanceEntry(r, false, mode)))
		lay(t, m, 0x3000+4*k, four(chanceEntry(r, false, mode)))
	}
	if r.Intn(4) > 0 {
		lay(t, m, rootAt+4*0x200, four(entryTo(base, all(mode))))
	}
	return m
}

// layAtPc lays a word where the next fetch of a machine and of its twin finds it, if it finds anything, half by half.
func layAtPc(t *testing.T, m *mach.Machine, twin *mach.Machine, s string) {
	t.Helper()
	for k := 0; k < len(s); k += 2 {
		// A model of its own each time: what its walk marks is not kept.
		o := modelOf(m)
		at, fault := o.walk((o.pc+k)&0xffffffff, api.Fetch)
		if fault != api.Fine || !o.inRam(at, 2) {
			return
		}
		lay(t, m, at-base, s[k:k+2])
		lay(t, twin, at-base, s[k:k+2])
	}
}

// Harts by chance among tables by chance do what the model does, step by step, and one that is flushed at each step goes on alike (P7, P8, P11, P12).
func TestWalksByChance(t *testing.T) {
	r := rand.New(rand.NewSource(5))
	did := map[api.Did]int{}
	walked := map[int]int{}
	for range 4000 {
		m := chanceWorld(t, r)
		twin := m.Copy()
		for range 12 {
			if r.Intn(4) == 0 {
				at, s := rootAt+0x1000*r.Intn(3)+4*oneOf(r, chanceIndexes()...), four(chanceEntry(r, false, oneOf(r, lower()...)))
				lay(t, m, at, s)
				lay(t, twin, at, s)
			}
			layAtPc(t, m, twin, wordOf(t, chanceAccess(r, m.Mode())))
			if satp, _ := m.Csr(api.CsrSatp); satp>>31 == 1 {
				walked[m.Mode()]++
			}
			d := follows(t, m)
			did[d]++
			twin.Flush()
			if e := twin.Step(); e != d {
				t.Fatalf("flushed: %v, want %v", e, d)
			}
			if m.Show() != twin.Show() || peek(t, m, 0, m.Size()) != peek(t, twin, 0, m.Size()) {
				t.Fatalf("two machines that did the same differ")
			}
			if d.Kind == api.Exception && r.Intn(3) == 0 {
				break
			}
		}
		sound(t, m)
	}
	for _, cause := range []int{1, 2, 4, 5, 6, 7, 8, 9, 12, 13, 15} {
		if did[api.Did{Kind: api.Exception, Cause: cause}] < 50 {
			t.Errorf("the exception %d was met %d times", cause, did[api.Did{Kind: api.Exception, Cause: cause}])
		}
	}
	if did[api.Did{Kind: api.Retired}] < 5000 || walked[api.User] < 1000 || walked[api.Super] < 1000 || walked[api.Mach] < 1000 {
		t.Errorf("steps: %v, walked by mode: %v", did, walked)
	}
}
