package mach_test

import (
	"testing"

	"machine/api"
	"machine/mach"
)

// lower are the modes in which addresses may be walked.
func lower() []int { return []int{api.User, api.Super} }

// Example 10 of the document, to the number.
func TestTheExampleOfAWalk(t *testing.T) {
	for _, w := range []world{newWorld(api.Super, 0), asIn(api.Super, 0)} {
		w.satp = 0x80080001
		w = w.with(0x1004, 0x20000801).with(0x2000, 0x20000c07)
		w.lands(t, api.Store, 0x00400008, 0x3008, 0x2000, 0x20000cc7)
		w.lands(t, api.Load, 0x00400008, 0x3008, 0x2000, 0x20000c47)
	}
}

// A fetch is done in the hart's mode, a load or store too, or, if MPRV is set, in MPP's.
func TestTheModeOfAnAccess(t *testing.T) {
	ofUser, ofSuper := all(api.User), all(api.Super)
	for _, purpose := range purposes() {
		newWorld(api.User, ofUser).lands(t, purpose, window, pageAt, secondAt, markedBy(purpose, pageTo(pageAt, ofUser)))
		newWorld(api.User, ofSuper).fails(t, purpose, window, api.Page)
		newWorld(api.Super, ofSuper).lands(t, purpose, window, pageAt, secondAt, markedBy(purpose, pageTo(pageAt, ofSuper)))
		newWorld(api.Super, ofUser).fails(t, purpose, window, api.Page)
	}
	for _, purpose := range []int{api.Load, api.Store} {
		asIn(api.User, ofUser).lands(t, purpose, window, pageAt, secondAt, markedBy(purpose, pageTo(pageAt, ofUser)))
		asIn(api.User, ofSuper).fails(t, purpose, window, api.Page)
		asIn(api.Super, ofSuper).lands(t, purpose, window, pageAt, secondAt, markedBy(purpose, pageTo(pageAt, ofSuper)))
		asIn(api.Super, ofUser).fails(t, purpose, window, api.Page)
		asIn(api.Mach, ofSuper).fails(t, purpose, window, api.Access)
		asIn(api.Mach, ofSuper).lands(t, purpose, base+pageAt+8, pageAt+8)
	}
}

// In mode M MPRV and MPP mean nothing for a fetch, nor MPP alone for anything.
func TestWhatMprvDoesNotChange(t *testing.T) {
	for _, mpp := range modes() {
		asIn(mpp, all(mpp)).lands(t, api.Fetch, base+pageAt+8, pageAt+8)
		asIn(mpp, all(mpp)).fails(t, api.Fetch, window, api.Access)
		w := asIn(mpp, all(mpp))
		w.status = mpp << 11
		for _, purpose := range purposes() {
			w.lands(t, purpose, base+pageAt+8, pageAt+8)
			w.fails(t, purpose, window, api.Access)
		}
	}
}

// MPRV is gone behind an mret or sret to another mode: what it is done in is the hart's mode then, whatever MPP is.
func TestMprvBehindReturns(t *testing.T) {
	w := newWorld(api.Mach, all(api.Super)).with(rootAt+4*0x200, entryTo(base, all(api.Super)))
	w.status = mprv | mpp | spp
	m := w.stands(t, base+codeAt, base+codeAt+16, window, "csrrw x0, 0x141, x1", "sret", "ebreak", "ebreak", "lw x3, 0(x2)")
	retire(t, m, 2)
	wantMode(t, m, api.Super)
	wantCsr(t, m, api.CsrMstatus, mpp|spie)
	retire(t, m, 1)
	wantReg(t, m, 3, filling(pageAt))
}

// A handler in mode M reaches what the mode that it was called from reaches.
func TestAHandlerReadsForItsCaller(t *testing.T) {
	for _, mode := range lower() {
		m := newWorld(mode, all(mode)).stands(t, base+codeAt, window+12, mprv, "ecall", "addi x4, x0, 1")
		lay(t, m, trapsAt-base, image(t, "csrrs x0, 0x300, x2", "lw x3, 0(x1)", "csrrc x0, 0x300, x2", "csrrs x5, 0x341, x0", "addi x5, x5, 4", "csrrw x0, 0x341, x5", "mret"))
		wantStep(t, m, api.Exception, 8+mode)
		retire(t, m, 7)
		wantReg(t, m, 3, filling(pageAt+12))
		wantMode(t, m, mode)
		retire(t, m, 1)
		wantReg(t, m, 4, 1)
	}
}

// In mode M, and where satp's bit 31 is 0, an address is physical.
func TestAddressesThatArePhysical(t *testing.T) {
	for _, mode := range modes() {
		for _, satp := range []int{0, 0x7fffffff, worldSatp &^ (1 << 31), worldSatp} {
			if mode != api.Mach && satp>>31 == 1 {
				continue
			}
			w := newWorld(mode, all(mode))
			w.satp = satp
			for _, purpose := range purposes() {
				w.lands(t, purpose, base+pageAt+0x1010, pageAt+0x1010)
				w.fails(t, purpose, window, api.Access)
			}
			for _, purpose := range []int{api.Load, api.Store} {
				v := asIn(mode, all(mode))
				v.satp = satp
				v.lands(t, purpose, base+pageAt+0x1010, pageAt+0x1010)
				v.fails(t, purpose, window, api.Access)
			}
		}
	}
}

// The root table lies at satp's low 22 bits times 4096; the other bits but 31 are not looked at.
func TestWhereTheRootTableLies(t *testing.T) {
	for _, place := range []int{0x1000, 0x2000, 0x5000, 0x6000} {
		for bit := 21; bit <= 30; bit++ {
			satp := 1<<31 | (base+place)>>12
			if bit > 21 {
				satp |= 1 << bit
			}
			for _, purpose := range purposes() {
				for _, w := range ways(purpose, api.Super, 0) {
					w.satp = satp
					w.entries = map[int]int{place + 4: entryTo(base, all(api.Super)|pa|pd), place + 4*0x200: entryTo(base, all(api.Super)|pa|pd)}
					w.lands(t, purpose, window+pageAt+16, pageAt+16)
				}
			}
		}
	}
}

// Physical addresses have 34 bits: a table, an entry or a page beyond 2^32 lies nowhere.
func TestAddressesOf34Bits(t *testing.T) {
	for _, far := range []int{1 << 20, 2 << 20, 3 << 20} {
		for _, mode := range lower() {
			for _, purpose := range purposes() {
				for _, w := range ways(purpose, mode, all(mode)) {
					entry := w.entries[secondAt] | far<<10
					w.with(secondAt, entry).fails(t, purpose, window, api.Access, secondAt, markedBy(purpose, entry))
					w.with(windowAt, w.entries[windowAt]|far<<10).fails(t, purpose, window, api.Access)
					entry = entryTo(base, all(mode)) | far<<10
					w.with(windowAt, entry).fails(t, purpose, window+pageAt, api.Access, windowAt, markedBy(purpose, entry))
					if w.mode == api.Mach || purpose == api.Fetch {
						w.satp |= far
						w.fails(t, purpose, window, api.Access)
					}
				}
			}
		}
	}
	// Nor are there devices.
	for _, at := range []int{api.TimerBase, api.PortBase} {
		for far := range 4 {
			w := asIn(api.Super, 0)
			m := w.with(secondAt, entryTo(at|far<<32, all(api.Super))).stands(t, base+codeAt, window, 0, "lbu x3, 0(x1)", "lw x3, 0(x1)")
			if far == 0 && at == api.PortBase {
				retire(t, m, 1)
			} else {
				meets(t, m, 5, window)
			}
		}
	}
}

// An address's bits 31 to 22 choose the root table's entry, 21 to 12 the second's, and the low 12 go on.
func TestEachPlaceOfTheTables(t *testing.T) {
	for _, first := range []int{0, 1, 2, 3, 0x1ff, 0x201, 0x2aa, 0x3fe, 0x3ff} {
		for _, second := range []int{0, 1, 2, 0x155, 0x200, 0x3ff} {
			for _, low := range []int{0, 4, 0x554, 0xffc} {
				address := first<<22 | second<<12 | low
				for _, purpose := range purposes() {
					for _, w := range ways(purpose, api.Super, 0) {
						entry := pageTo(pageAt+0x1000, all(api.Super))
						w = w.with(windowAt, 0).with(secondAt, 0).with(rootAt+4*first, pageTo(secondAt, pv)).with(secondAt+4*second, entry)
						w.lands(t, purpose, address, pageAt+0x1000+low, secondAt+4*second, markedBy(purpose, entry))
					}
				}
			}
		}
	}
}

// A leaf of the root table stands for 4 MiB: the low 22 bits go on.
func TestBigPages(t *testing.T) {
	for _, mode := range lower() {
		for _, purpose := range purposes() {
			for _, w := range ways(purpose, mode, 0) {
				entry := entryTo(base, all(mode))
				w = w.with(windowAt, entry)
				for _, place := range []int{pageAt, pageAt + 4, pageAt + 0xffc, pageAt + 0x1000, worldSize - 4} {
					w.lands(t, purpose, window+place, place, windowAt, markedBy(purpose, entry))
				}
				for _, place := range []int{worldSize, 0x10000 + pageAt, 0x200000 + pageAt, 0x3ffffc} {
					w.fails(t, purpose, window+place, api.Access, windowAt, markedBy(purpose, entry))
				}
			}
		}
	}
}

// A leaf of the root table whose page number's ten low bits are not 0: a page fault. Those of the second table may have them.
func TestBigPagesThatAreNotAligned(t *testing.T) {
	for bit := range 10 {
		for _, mode := range lower() {
			for _, purpose := range purposes() {
				for _, w := range ways(purpose, mode, 0) {
					w.with(windowAt, entryTo(base, all(mode))|1<<(10+bit)).fails(t, purpose, window+pageAt, api.Page)
					w.with(windowAt, entryTo(base, all(mode)|pa|pd)|1<<(10+bit)).fails(t, purpose, window, api.Page)
				}
			}
		}
	}
}

// Bits 5, 8 and 9 are not looked at, and stay.
func TestBitsThatAreNotLookedAt(t *testing.T) {
	for _, more := range []int{pg, 1 << 8, 1 << 9, pg | 3<<8} {
		for _, mode := range lower() {
			for _, purpose := range purposes() {
				for _, w := range ways(purpose, mode, all(mode)) {
					entry := w.entries[secondAt]
					w.with(windowAt, w.entries[windowAt]|more).lands(t, purpose, window+8, pageAt+8, secondAt, markedBy(purpose, entry))
					w.with(secondAt, entry|more).lands(t, purpose, window+8, pageAt+8, secondAt, markedBy(purpose, entry|more))
					entry = entryTo(base, all(mode)|more)
					w.with(windowAt, entry).lands(t, purpose, window+pageAt, pageAt, windowAt, markedBy(purpose, entry))
				}
			}
		}
	}
}

// V is 0, or W without R: a page fault, in either table.
func TestEntriesThatAreNone(t *testing.T) {
	for _, mode := range lower() {
		for _, purpose := range purposes() {
			for _, w := range ways(purpose, mode, all(mode)) {
				u := all(mode) & pu
				for _, bits := range []int{0, pr, pr | pw | px, 0xfe &^ (pu ^ u), pv | pw, pv | pw | px, 0xff &^ pr &^ (pu ^ u)} {
					bits |= u
					w.with(secondAt, pageTo(pageAt, bits)).fails(t, purpose, window, api.Page)
					w.with(windowAt, entryTo(base, bits)).fails(t, purpose, window+pageAt, api.Page)
				}
				w.with(secondAt, 0).fails(t, purpose, window, api.Page)
				w.with(secondAt, 0xfffffffe).fails(t, purpose, window, api.Page)
				w.with(windowAt, 0).fails(t, purpose, window, api.Page)
				// That it would point where nothing lies does not matter then.
				w.with(windowAt, entryTo(0, 0)).fails(t, purpose, window, api.Page)
				w.with(windowAt, entryTo(0, pv|pw)).fails(t, purpose, window, api.Page)
			}
		}
	}
}

// A table's word that does not lie in RAM: an access fault.
func TestTablesThatDoNotLieInRam(t *testing.T) {
	for _, mode := range lower() {
		for _, purpose := range purposes() {
			for _, w := range ways(purpose, mode, all(mode)) {
				for _, at := range []int{0, base - 0x1000, base + worldSize, base + api.MaxRam, api.TimerBase, api.PortBase, 0xfffff000, 0x3fffff000} {
					w.with(windowAt, entryTo(at, pv)).fails(t, purpose, window, api.Access)
					if w.mode == api.Mach || purpose == api.Fetch {
						v := w
						v.satp = 1<<31 | at>>12
						v.fails(t, purpose, window, api.Access)
					}
				}
			}
		}
	}
}

// RAM ends within a table: the words that it has whole are its entries.
func TestTablesThatRamHasNotWhole(t *testing.T) {
	entry := pageTo(0, all(api.Super))
	for more := range 9 {
		for index := range 3 {
			w := asIn(api.Super, 0).with(windowAt, pageTo(secondAt, pv)).with(rootAt+4*0x200, 0)
			w.size = secondAt + more
			w.entries = map[int]int{windowAt: pageTo(secondAt, pv)}
			for k := 0; 4*k+4 <= more; k++ {
				w.entries[secondAt+4*k] = entry
			}
			address := window + index<<12 + 0xf00
			if more < 4*index+4 {
				w.fails(t, api.Load, address, api.Access)
				w.fails(t, api.Store, address, api.Access)
				continue
			}
			m := w.about(t, api.Store, address)
			retire(t, m, 1)
			wantRam(t, m, 0xf00, four(stored))
			wantRam(t, m, secondAt+4*index, four(entry|pa|pd))
		}
		// The root table.
		w := asIn(api.Super, 0)
		w.size = rootAt + 4 + more
		w.entries = map[int]int{rootAt: entryTo(base, all(api.Super))}
		if more >= 4 {
			w.entries[windowAt] = entryTo(base, all(api.Super))
		}
		m := w.about(t, api.Load, 0x410)
		retire(t, m, 1)
		wantRam(t, m, rootAt, four(entryTo(base, all(api.Super)|pa)))
		if more < 4 {
			w.fails(t, api.Load, window+0x410, api.Access)
			continue
		}
		m = w.about(t, api.Load, window+0x410)
		retire(t, m, 1)
		wantRam(t, m, windowAt, four(entryTo(base, all(api.Super)|pa)))
	}
}

// One that points to the second table and has U, A or D: a page fault, even if nothing lies there. Else it stays as it is.
func TestPointers(t *testing.T) {
	for _, mode := range lower() {
		for _, purpose := range purposes() {
			for _, w := range ways(purpose, mode, all(mode)) {
				for _, bits := range []int{pu, pa, pd, pu | pa, pa | pd, pu | pa | pd} {
					for _, at := range []int{base + secondAt, 0, base + worldSize} {
						w.with(windowAt, entryTo(at, pv|bits)).fails(t, purpose, window, api.Page)
					}
				}
				w.lands(t, purpose, window+4, pageAt+4, secondAt, markedBy(purpose, w.entries[secondAt]))
			}
		}
	}
}

// An entry of the second table that points again: a page fault, wherever it points.
func TestPointersInTheSecondTable(t *testing.T) {
	for _, mode := range lower() {
		for _, purpose := range purposes() {
			for _, w := range ways(purpose, mode, 0) {
				w = w.with(pageAt, pageTo(pageAt, all(mode)))
				for _, bits := range []int{pv, pv | pu, pv | pa | pd, pv | pu | pa | pd, pv | pg | 3<<8} {
					for _, at := range []int{base + pageAt, base + secondAt, base + rootAt, 0} {
						w.with(secondAt, entryTo(at, bits)).fails(t, purpose, window, api.Page)
					}
				}
			}
		}
	}
}

// mayBe tells what a leaf lets be, as the document says it.
func mayBe(bits int, mode int, status int, purpose int) bool {
	has := func(bit int) bool { return bits&bit != 0 }
	if !has(pv) || has(pw) && !has(pr) || !has(pr) && !has(px) {
		return false
	}
	if mode == api.User && !has(pu) {
		return false
	}
	if mode == api.Super && has(pu) && (purpose == api.Fetch || status&sum == 0) {
		return false
	}
	switch purpose {
	case api.Fetch:
		return has(px)
	case api.Load:
		return has(pr) || has(px) && status&mxr != 0
	}
	return has(pw)
}

// Every leaf, in either table and each mode, with SUM and MXR, for each purpose.
func TestWhatLeavesLetBe(t *testing.T) {
	for _, mode := range lower() {
		for _, status := range []int{0, sum, mxr, sum | mxr} {
			for _, purpose := range purposes() {
				for _, w := range ways(purpose, mode, 0) {
					w.status |= status
					near := w.about(t, purpose, window+8)
					far := w.about(t, purpose, window+pageAt+8)
					for bits := range 256 {
						lets := mayBe(bits, mode, status, purpose)
						leafLets(t, near.Copy(), secondAt, pageTo(pageAt, bits), purpose, lets)
						if bits&(pr|px) != 0 || bits&pv == 0 {
							leafLets(t, far.Copy(), windowAt, entryTo(base, bits), purpose, lets)
						}
						if t.Failed() {
							t.Fatalf("bits %#x, mode %d, mstatus %#x, purpose %d", bits, mode, w.status, purpose)
						}
					}
				}
			}
		}
	}
}

// leafLets does a step with a leaf at a place of RAM, which must let it be, or must not.
func leafLets(t *testing.T, m *mach.Machine, at int, entry int, purpose int, lets bool) {
	t.Helper()
	lay(t, m, at, four(entry))
	twin := m.Copy()
	follows(t, twin)
	want, after := api.Did{Kind: api.Retired}, markedBy(purpose, entry)
	if !lets {
		want, after = api.Did{Kind: api.Exception, Cause: []int{12, 13, 15}[purpose]}, entry
	}
	if d := m.Step(); d != want {
		t.Errorf("%v, want %v", d, want)
	}
	wantRam(t, m, at, four(after))
}

// SUM and MXR as sstatus has them are the same, and count from the next access on.
func TestSumAndMxrBySstatus(t *testing.T) {
	w := newWorld(api.Super, all(api.User))
	m := w.stands(t, base+codeAt, window, sum, "csrrs x0, 0x100, x2", "lw x3, 4(x1)", "sw x0, 4(x1)", "csrrc x0, 0x100, x2", "sw x3, 8(x1)")
	retire(t, m, 4)
	wantReg(t, m, 3, filling(pageAt+4))
	wantRam(t, m, pageAt+4, four(0))
	meets(t, m, 15, window+8)
	w = newWorld(api.Super, pv|px)
	m = w.stands(t, base+codeAt, window, mxr, "csrrs x0, 0x100, x2", "lw x3, 4(x1)", "csrrc x0, 0x100, x2", "lw x3, 8(x1)")
	retire(t, m, 3)
	wantReg(t, m, 3, filling(pageAt+4))
	meets(t, m, 13, window+8)
}

// A is set, and D by a store, if they are not; nothing else of the entry changes, nor of another.
func TestMarks(t *testing.T) {
	for _, mode := range lower() {
		for _, had := range []int{0, pa, pd, pa | pd} {
			for _, purpose := range purposes() {
				for _, w := range ways(purpose, mode, all(mode)|had) {
					near, far := pageTo(pageAt, all(mode)|had), entryTo(base, all(mode)|had)
					after := map[int]int{api.Fetch: pa, api.Load: pa, api.Store: pa | pd}[purpose]
					w.lands(t, purpose, window+16, pageAt+16, secondAt, near|after)
					w.with(windowAt, far).lands(t, purpose, window+pageAt+16, pageAt+16, windowAt, far|after)
				}
			}
		}
	}
}

// They are set also if the access meets a fault behind that: nothing lies there, or nothing of that size.
func TestMarksAheadOfAFault(t *testing.T) {
	for _, mode := range lower() {
		for _, purpose := range purposes() {
			for _, w := range ways(purpose, mode, 0) {
				for _, at := range []int{0, base - 0x1000, base + worldSize, base + api.MaxRam, api.PortBase, api.TimerBase + 0x1000, 0xfffff000} {
					entry := entryTo(at, all(mode))
					w.with(secondAt, entry).fails(t, purpose, window, api.Access, secondAt, markedBy(purpose, entry))
				}
				for _, at := range []int{0, 0xffc00000, 0x3ffc00000} {
					entry := entryTo(at, all(mode))
					w.with(windowAt, entry).fails(t, purpose, window+0x1234, api.Access, windowAt, markedBy(purpose, entry))
				}
			}
		}
	}
	// From the timer block words are read and written, and never fetched.
	for _, mode := range lower() {
		entry := entryTo(api.TimerBase, all(mode))
		newWorld(mode, 0).with(secondAt, entry).fails(t, api.Fetch, window, api.Access, secondAt, entry|pa)
	}
}

// Devices are reached through pages as RAM is.
func TestDevicesThroughPages(t *testing.T) {
	for _, mode := range lower() {
		for _, w := range ways(api.Load, mode, 0) {
			w = w.with(secondAt, entryTo(api.TimerBase+0x4000, all(mode))).with(secondAt+4, entryTo(api.PortBase, all(mode)))
			m := w.stands(t, base+codeAt, window, window+0x1000, "addi x4, x0, 0x55", "sw x4, 4(x1)", "lw x5, 4(x1)", "sb x4, 7(x2)", "lbu x6, 7(x2)", "lbu x7, 0(x2)", "sb x4, 0(x2)", "lh x8, 0(x2)")
			m.Feed("q")
			retire(t, m, 7)
			wantReg(t, m, 5, 0x55)
			wantReg(t, m, 6, 0x55)
			wantReg(t, m, 7, 'q')
			if s := m.Drain(); s != "U" {
				t.Errorf("sent: %q", s)
			}
			meets(t, m, 5, window+0x1000)
			wantRam(t, m, secondAt, four(entryTo(api.TimerBase+0x4000, all(mode)|pa|pd), entryTo(api.PortBase, all(mode)|pa|pd)))
		}
	}
}

// Page faults go to mode S, if medeleg has them, with the address as stval.
func TestFaultsThatGoToModeS(t *testing.T) {
	for _, mode := range lower() {
		for _, purpose := range purposes() {
			for _, fault := range []int{api.Page, api.Access} {
				w := newWorld(mode, all(mode)).with(secondAt, map[int]int{api.Page: 0, api.Access: entryTo(0, all(mode))}[fault])
				cause := faultCauses[purpose][fault]
				for _, deleg := range []int{1 << cause, 0xb3ff, 0xb3ff &^ (1 << cause)} {
					w.deleg = deleg
					m := w.about(t, purpose, window+20)
					at := m.Pc()
					wantStep(t, m, api.Exception, cause)
					first := 0x300
					if deleg>>cause&1 == 1 {
						first = 0x100
						wantMode(t, m, api.Super)
					} else {
						wantMode(t, m, api.Mach)
					}
					wantCsr(t, m, first+0x41, at)
					wantCsr(t, m, first+0x42, cause)
					wantCsr(t, m, first+0x43, window+20)
				}
			}
		}
	}
}
