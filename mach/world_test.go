package mach_test

import (
	"testing"

	"machine/api"
	"machine/mach"
)

// The places of the RAM of a world. From pageAt on each word is one of its own: filling.
const (
	codeAt    = 0x400 // the instruction that a test is about, unless it is fetched elsewhere
	rootAt    = 0x1000
	secondAt  = 0x2000
	pageAt    = 0x3000
	worldSize = 0x7000

	worldSatp = 1<<31 | (base+rootAt)>>12
	window    = 0x00400000 // the address that the root table's entry 1 is for, and the second table's entry 0
	windowAt  = rootAt + 4
	trapsAt   = base + 0x600
)

// world is a machine that stands ahead of an access.
type world struct {
	mode    int
	status  int // mstatus; below mode M, behind the mret that enters it, MPIE is 1 and MPP 0
	satp    int
	deleg   int // medeleg
	size    int
	entries map[int]int // words of RAM, by their places
}

// entryTo tells an entry that names the page of a physical address.
func entryTo(at int, bits int) int { return at>>12<<10 | bits }

// pageTo tells an entry that names the page at a place of RAM.
func pageTo(place int, bits int) int { return entryTo(base+place, bits) }

// newWorld tells one in which the window is a page at pageAt with those bits. Below mode M RAM also lies at its physical address, so that code goes on there.
func newWorld(mode int, bits int) world {
	w := world{mode: mode, satp: worldSatp, size: worldSize, entries: map[int]int{windowAt: pageTo(secondAt, pv), secondAt: pageTo(pageAt, bits)}}
	switch mode {
	case api.User:
		w.entries[rootAt+4*0x200] = entryTo(base, pv|pr|pw|px|pu|pa|pd)
	case api.Super:
		w.entries[rootAt+4*0x200] = entryTo(base, pv|pr|pw|px|pa|pd)
	}
	return w
}

// asIn tells a world in mode M whose loads and stores are done in another.
func asIn(mode int, bits int) world {
	w := newWorld(api.Mach, bits)
	w.status = mprv | mode<<11
	return w
}

// with tells a world with a word of RAM changed.
func (w world) with(place int, v int) world {
	all := map[int]int{place: v}
	for at, was := range w.entries {
		if at != place {
			all[at] = was
		}
	}
	w.entries = all
	return w
}

// filling tells the word that lies at a place from pageAt on: addi x3, x0 and a number that no other of them has.
func filling(place int) int { return place>>2&0xfff<<20 | 3<<7 | 0x13 }

// fillings are all of those words.
var fillings = func() string {
	var words []int
	for at := pageAt; at < api.MaxRam; at += 4 {
		words = append(words, filling(at))
	}
	return four(words...)
}()

// fillingDone tells what that word makes of x3.
func fillingDone(place int) int { return int(uint32(int32(filling(place)) >> 20)) }

// stands tells the machine, at an address, with numbers in x1 and x2 and lines at codeAt. Traps go to trapsAt, where nothing is carried out yet.
func (w world) stands(t *testing.T, pc int, x1 int, x2 int, lines ...string) *mach.Machine {
	t.Helper()
	s := setter(t, 1, x1) + setter(t, 2, x2) + csrw(t, api.CsrMtvec, trapsAt) + csrw(t, api.CsrStvec, trapsAt) + csrw(t, api.CsrMepc, pc)
	s += csrw(t, api.CsrMedeleg, w.deleg) + csrw(t, api.CsrSatp, w.satp)
	if w.mode == api.Mach {
		s += csrw(t, api.CsrMstatus, w.status) + setter(t, 31, pc) + wordOf(t, api.Ins{Op: api.Jalr, Rs1: 31, Len: 4})
	} else {
		s += csrw(t, api.CsrMstatus, w.status&^mpp|w.mode<<11) + wordOf(t, api.Ins{Op: api.Mret, Len: 4})
	}
	m := made(t, w.size)
	lay(t, m, 0, s)
	lay(t, m, codeAt, image(t, lines...))
	retire(t, m, len(s)/4)
	if w.size > pageAt {
		lay(t, m, pageAt, fillings[:w.size-pageAt])
	}
	for at, v := range w.entries {
		lay(t, m, at, four(v)[:max(0, min(4, w.size-at))])
	}
	if m.Mode() != w.mode || m.Pc() != pc {
		t.Fatalf("mode %d at %#x, want %d at %#x", m.Mode(), m.Pc(), w.mode, pc)
	}
	return m
}

const stored = 0x89abcdef

// about tells the machine ahead of an access of a word: lw x3 or sw of the number stored at an address, or a fetch from there.
func (w world) about(t *testing.T, purpose int, address int) *mach.Machine {
	t.Helper()
	switch purpose {
	case api.Load:
		return w.stands(t, base+codeAt, address, stored, "lw x3, 0(x1)")
	case api.Store:
		return w.stands(t, base+codeAt, address, stored, "sw x2, 0(x1)")
	}
	return w.stands(t, address, address, stored)
}

// lands carries out an access that must find the word at a place of RAM; all else of RAM is to be as it was, but for entries, by their places.
func (w world) lands(t *testing.T, purpose int, address int, place int, marked ...int) {
	t.Helper()
	m := w.about(t, purpose, address)
	ram := marks(t, m, marked)
	if d := m.Step(); d != (api.Did{Kind: api.Retired}) {
		t.Fatalf("purpose %d, %#x, mode %d, mstatus %#x: %v", purpose, address, w.mode, w.status, d)
	}
	switch purpose {
	case api.Load:
		wantReg(t, m, 3, filling(place))
	case api.Fetch:
		wantReg(t, m, 3, fillingDone(place))
		wantPc(t, m, (address+4)&0xffffffff)
	case api.Store:
		copy(ram[place:], four(stored))
	}
	if got := peek(t, m, 0, w.size); got != string(ram) {
		t.Fatalf("purpose %d, %#x, mode %d: RAM%s", purpose, address, w.mode, unlike(got, string(ram)))
	}
	if t.Failed() {
		t.Fatalf("purpose %d, %#x, mode %d, mstatus %#x", purpose, address, w.mode, w.status)
	}
}

// fails carries out an access that must meet a fault; RAM is to be as it was, but for entries, by their places.
func (w world) fails(t *testing.T, purpose int, address int, fault int, marked ...int) {
	t.Helper()
	m := w.about(t, purpose, address)
	meetsAlone(t, m, faultCauses[purpose][fault], address, marked...)
	if t.Failed() {
		t.Fatalf("purpose %d, %#x, mode %d, mstatus %#x", purpose, address, w.mode, w.status)
	}
}

// meetsAlone does a step that must meet an exception, which is taken to mode M, and change nothing else but entries, by their places.
func meetsAlone(t *testing.T, m *mach.Machine, cause int, tval int, marked ...int) {
	t.Helper()
	before := m.Show()
	ram := marks(t, m, marked)
	meets(t, m, cause, tval)
	if after := m.Show(); after[4:modeAt] != before[4:modeAt] || after[devicesAt:] != before[devicesAt:] {
		t.Errorf("registers, a reservation or devices change")
	}
	wantMode(t, m, api.Mach)
	wantPc(t, m, trapsAt)
	if got := peek(t, m, 0, m.Size()); got != string(ram) {
		t.Errorf("RAM%s", unlike(got, string(ram)))
	}
}

// marks tells what RAM is with entries changed, by their places.
func marks(t *testing.T, m *mach.Machine, marked []int) []byte {
	t.Helper()
	ram := []byte(peek(t, m, 0, m.Size()))
	for k := 0; k < len(marked); k += 2 {
		copy(ram[marked[k]:], four(marked[k+1]))
	}
	return ram
}

// purposes are all that an access may be for.
func purposes() []int { return []int{api.Fetch, api.Load, api.Store} }

// all tells the bits of a page that lets a mode do all.
func all(mode int) int {
	if mode == api.User {
		return pv | pr | pw | px | pu
	}
	return pv | pr | pw | px
}

// markedBy tells an entry as an access leaves it.
func markedBy(purpose int, entry int) int {
	if purpose == api.Store {
		return entry | pa | pd
	}
	return entry | pa
}

// ways tells the worlds in which an access of a purpose is done in mode S or U: in the mode itself and, but for a fetch, in mode M by MPRV.
func ways(purpose int, mode int, bits int) []world {
	if purpose == api.Fetch {
		return []world{newWorld(mode, bits)}
	}
	return []world{newWorld(mode, bits), asIn(mode, bits)}
}
