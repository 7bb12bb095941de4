package mach_test

import (
	"testing"

	"machine/api"
)

// nextAt is the place of the entry of the page behind the window's first.
const nextAt = secondAt + 4

// twoPages tells worlds whose window has two pages with those entries, as loads and stores of a mode reach them.
func twoPages(mode int, first int, second int) []world {
	var all []world
	for _, w := range ways(api.Load, mode, 0) {
		all = append(all, w.with(secondAt, first).with(nextAt, second))
	}
	return all
}

// lineOf tells a load to x3, or a store of x2, at x1.
func lineOf(op int) string {
	if op >= api.Sb {
		return api.Name(op) + " x2, 0(x1)"
	}
	return api.Name(op) + " x3, 0(x1)"
}

func purposeOf(op int) int {
	if op >= api.Sb && op <= api.Sw || op > api.LrW {
		return api.Store
	}
	return api.Load
}

// Each portion is translated by itself: two pages that follow each other as addresses lie apart in RAM.
func TestPortionsLieApart(t *testing.T) {
	for _, mode := range lower() {
		first, second := pageTo(pageAt+0x2000, all(mode)), pageTo(pageAt, all(mode))
		for _, w := range twoPages(mode, first, second) {
			for op := api.Lb; op <= api.Sw; op++ {
				for low := 0xffb; low <= 0x1001; low++ {
					m := w.stands(t, base+codeAt, window+low, stored, lineOf(op))
					ram := []byte(peek(t, m, 0, w.size))
					s := ""
					for k := range sizes(op) {
						at, entryAt, entry := pageAt+0x2000+low+k, secondAt, first
						if low+k >= 0x1000 {
							at, entryAt, entry = pageAt+low+k-0x1000, nextAt, second
						}
						s += string(ram[at : at+1])
						copy(ram[entryAt:], four(markedBy(purposeOf(op), entry)))
						if op >= api.Sb {
							ram[at] = four(stored)[k]
						}
					}
					retire(t, m, 1)
					if got := peek(t, m, 0, w.size); got != string(ram) {
						t.Fatalf("%s at %#x: RAM%s", api.Name(op), low, unlike(got, string(ram)))
					}
					if op < api.Sb {
						wantReg(t, m, 3, loaded(op, s))
					}
				}
			}
		}
	}
}

// The first portion is translated, and must be such as lies there, ahead of the second; nothing is read or written till both may be; tval is the portion's address.
func TestPortionsThatMeetFaults(t *testing.T) {
	const first, second = window + 0xffe, window + 0x1000
	ram, other, nowhere, none := pageTo(pageAt, all(api.Super)), pageTo(pageAt+0x2000, all(api.Super)), entryTo(0, all(api.Super)), 0
	for _, c := range []struct {
		entries [2]int
		fault   int
		tval    int
		marks   [2]bool
	}{
		{[2]int{none, none}, api.Page, first, [2]bool{false, false}},
		{[2]int{none, ram}, api.Page, first, [2]bool{false, false}},
		{[2]int{none, nowhere}, api.Page, first, [2]bool{false, false}},
		{[2]int{nowhere, none}, api.Access, first, [2]bool{true, false}},
		{[2]int{nowhere, ram}, api.Access, first, [2]bool{true, false}},
		{[2]int{nowhere, nowhere}, api.Access, first, [2]bool{true, false}},
		{[2]int{ram, none}, api.Page, second, [2]bool{true, false}},
		{[2]int{ram, nowhere}, api.Access, second, [2]bool{true, true}},
		{[2]int{other, ram | pu}, api.Page, second, [2]bool{true, false}},
		{[2]int{ram | pu, other}, api.Page, first, [2]bool{false, false}},
		{[2]int{ram | pa | pd, none}, api.Page, second, [2]bool{true, false}},
		// Two bytes of the port, or of the timer block, are none of their places.
		{[2]int{ram, entryTo(api.PortBase, all(api.Super))}, api.Access, second, [2]bool{true, true}},
		{[2]int{ram, entryTo(api.TimerBase, all(api.Super))}, api.Access, second, [2]bool{true, true}},
	} {
		for _, w := range twoPages(api.Super, c.entries[0], c.entries[1]) {
			for _, op := range []int{api.Lw, api.Sw} {
				var marked []int
				for k, so := range c.marks {
					if so {
						marked = append(marked, secondAt+4*k, markedBy(purposeOf(op), c.entries[k]))
					}
				}
				wantFault(t, w, op, first, faultCauses[purposeOf(op)][c.fault], c.tval, marked...)
			}
		}
	}
}

// wantFault carries out an access by an instruction that must meet a fault and leave all as it was, but for entries, by their places.
func wantFault(t *testing.T, w world, op int, address int, cause int, tval int, marked ...int) {
	t.Helper()
	line := lineOf(op)
	if op >= api.LrW {
		line = atomicLine(op)
	}
	m := w.stands(t, base+codeAt, address, stored, line)
	m.Feed("ab")
	meetsAlone(t, m, cause, tval, marked...)
	if t.Failed() {
		t.Fatalf("%s at %#x, mode %d, entries %#x", api.Name(op), address, w.mode, w.entries)
	}
}

// A portion that must be for writing: a page that is only read faults as the portion that lies on it.
func TestPortionsThatMayNotBeWritten(t *testing.T) {
	open, closed := pageTo(pageAt, all(api.User)), pageTo(pageAt+0x2000, pv|pr|pu)
	for _, w := range twoPages(api.User, open, closed) {
		wantFault(t, w, api.Sw, window+0xffd, 15, window+0x1000, secondAt, open|pa|pd)
		wantFault(t, w, api.Sh, window+0xfff, 15, window+0x1000, secondAt, open|pa|pd)
		wantFault(t, w, api.Sb, window+0x1000, 15, window+0x1000)
	}
	for _, w := range twoPages(api.User, closed, open) {
		wantFault(t, w, api.Sw, window+0xffd, 15, window+0xffd)
		wantFault(t, w, api.Sh, window+0xfff, 15, window+0xfff)
	}
}

// A portion of one byte may be a byte of the port.
func TestAPortionOfThePort(t *testing.T) {
	ram, port := pageTo(pageAt, all(api.Super)), entryTo(api.PortBase, all(api.Super))
	for _, w := range twoPages(api.Super, ram, port) {
		m := w.stands(t, base+codeAt, window+0xffd, window+0xfff, "lw x3, 0(x1)", "lhu x4, 0(x2)", "addi x5, x0, 0x4b2", "sh x5, 0(x2)")
		m.Feed("xy")
		piece := peek(t, m, pageAt+0xffd, 3)
		retire(t, m, 4)
		wantReg(t, m, 3, wordAt(piece+"x", 0))
		wantReg(t, m, 4, int(piece[2])|'y'<<8)
		wantRam(t, m, pageAt+0xffd, piece[:2]+"\xb2")
		if s := m.Drain(); s != "\x04" {
			t.Errorf("sent: %q", s)
		}
		wantRam(t, m, secondAt, four(ram|pa|pd, port|pa|pd))
	}
	// The page of the port is the first: nothing of it lies at its end.
	for _, w := range twoPages(api.Super, port, ram) {
		wantFault(t, w, api.Lh, window+0xfff, 5, window+0xfff, secondAt, port|pa)
		wantFault(t, w, api.Sh, window+0xfff, 7, window+0xfff, secondAt, port|pa|pd)
	}
	// The port is not read, if the first portion may not be.
	for _, w := range twoPages(api.Super, 0, port) {
		wantFault(t, w, api.Lh, window+0xfff, 13, window+0xfff)
	}
	// Nor is its byte sent.
	for _, w := range twoPages(api.Super, ram&^pw, port) {
		wantFault(t, w, api.Sh, window+0xfff, 15, window+0xfff)
	}
}

// A word of the timer block at its page's end is one portion.
func TestAWordOfTheTimerAtItsPagesEnd(t *testing.T) {
	entry := entryTo(api.TimerBase+0xb000, all(api.User))
	for _, w := range twoPages(api.User, entry, 0) {
		m := w.stands(t, base+codeAt, window+0xffc, stored, "sw x2, 0(x1)", "lw x3, 0(x1)")
		retire(t, m, 2)
		wantReg(t, m, 3, stored)
		wantCsr(t, m, api.CsrTimeh, stored)
		wantRam(t, m, secondAt, four(entry|pa|pd, 0))
	}
}

// Behind the highest address comes 0.
func TestPortionsAroundTheHighestAddress(t *testing.T) {
	high, low := pageTo(pageAt+0x1000, all(api.Super)), pageTo(pageAt, all(api.Super))
	for _, w := range ways(api.Load, api.Super, 0) {
		w = w.with(rootAt, pageTo(secondAt, pv)).with(rootAt+4*0x3ff, pageTo(secondAt, pv)).with(secondAt+4*0x3ff, high).with(secondAt, low)
		m := w.stands(t, base+codeAt, 0xfffffffe, stored, "lw x3, 0(x1)", "sw x2, 0(x1)")
		s := peek(t, m, pageAt+0x1ffe, 2) + peek(t, m, pageAt, 2)
		retire(t, m, 2)
		wantReg(t, m, 3, wordAt(s, 0))
		wantRam(t, m, pageAt+0x1ffe, four(stored)[:2])
		wantRam(t, m, pageAt, four(stored)[2:])
		w = w.with(secondAt, 0)
		wantFault(t, w, api.Lw, 0xfffffffe, 13, 0, secondAt+4*0x3ff, high|pa)
		wantFault(t, w, api.Sh, 0xffffffff, 15, 0, secondAt+4*0x3ff, high|pa|pd)
	}
}

// Portions on a page of 4 MiB, and from one to the next.
func TestPortionsOnBigPages(t *testing.T) {
	big := entryTo(base, all(api.Super))
	for _, w := range ways(api.Load, api.Super, 0) {
		w = w.with(windowAt, big)
		m := w.stands(t, base+codeAt, window+pageAt+0xffe, stored, "lw x3, 0(x1)", "sw x2, 0(x1)")
		s := peek(t, m, pageAt+0xffe, 4)
		retire(t, m, 2)
		wantReg(t, m, 3, wordAt(s, 0))
		wantRam(t, m, pageAt+0xffe, four(stored))
		// RAM ends with a page: the second portion is where nothing lies.
		wantFault(t, w, api.Lw, window+worldSize-2, 5, window+worldSize, windowAt, big|pa)
		wantFault(t, w, api.Sw, window+worldSize-1, 7, window+worldSize, windowAt, big|pa|pd)
		// Without a page's end between it is one portion.
		v := w
		v.size = worldSize - 2
		wantFault(t, v, api.Sw, window+worldSize-4, 7, window+worldSize-4, windowAt, big|pa|pd)
		// From a small page, the last of its table, to a page of 4 MiB.
		w = w.with(windowAt, pageTo(secondAt, pv)).with(secondAt+4*0x3ff, pageTo(pageAt, all(api.Super))).with(windowAt+4, big)
		m = w.stands(t, base+codeAt, window+0x3ffffd, 0, "lw x3, 0(x1)")
		s = peek(t, m, pageAt+0xffd, 3) + peek(t, m, 0, 1)
		retire(t, m, 1)
		wantReg(t, m, 3, wordAt(s, 0))
		wantRam(t, m, windowAt+4, four(big|pa))
		wantRam(t, m, secondAt+4*0x3ff, four(pageTo(pageAt, all(api.Super)|pa)))
	}
}

// atomicLine tells a line with x3, x2 and x1 as rd, rs2 and the address.
func atomicLine(op int) string {
	if op == api.LrW {
		return "lr.w x3, x1, 0"
	}
	return api.Name(op) + " x3, x2, x1, 0"
}

// lr.w is translated as a load, all others as a store, even an sc.w that fails.
func TestAtomicsAreTranslated(t *testing.T) {
	for op := api.LrW; op <= api.AmoMaxu; op++ {
		purpose := purposeOf(op)
		for _, mode := range lower() {
			for _, w := range ways(purpose, mode, all(mode)) {
				entry := w.entries[secondAt]
				m := w.stands(t, base+codeAt, window+12, stored, atomicLine(op))
				retire(t, m, 1)
				wantRam(t, m, secondAt, four(markedBy(purpose, entry)))
				switch op {
				case api.LrW:
					wantReg(t, m, 3, filling(pageAt+12))
					wantReserved(t, m, base+pageAt+12)
				case api.ScW:
					wantReg(t, m, 3, 1)
					wantRam(t, m, pageAt+12, four(filling(pageAt+12)))
				default:
					wantReg(t, m, 3, filling(pageAt+12))
					wantRam(t, m, pageAt+12, four(int(modifiedWord(op, uint32(filling(pageAt+12)), stored))))
				}
				atomicFaults(t, w, op, mode)
			}
		}
	}
}

// atomicFaults lets an instruction meet all that it can.
func atomicFaults(t *testing.T, w world, op int, mode int) {
	t.Helper()
	purpose, align := purposeOf(op), 6
	if op == api.LrW {
		align = 4
	}
	page, access := faultCauses[purpose][api.Page], faultCauses[purpose][api.Access]
	wantFault(t, w.with(secondAt, 0), op, window+8, page, window+8)
	wantFault(t, w.with(windowAt, 0), op, window+8, page, window+8)
	wantFault(t, w.with(windowAt, entryTo(0, pv)), op, window+8, access, window+8)
	for _, at := range []int{0, base + worldSize, api.TimerBase, api.PortBase} {
		entry := entryTo(at, all(mode))
		wantFault(t, w.with(secondAt, entry), op, window, access, window, secondAt, markedBy(purpose, entry))
	}
	if op != api.LrW {
		wantFault(t, w.with(secondAt, w.entries[secondAt]&^pw), op, window+8, page, window+8)
	} else {
		wantFault(t, w.with(secondAt, w.entries[secondAt]&^(pr|pw)), op, window+8, page, window+8)
	}
	// That it is no multiple of 4 comes ahead of its translation.
	for k := 1; k <= 3; k++ {
		wantFault(t, w, op, window+k, align, window+k)
		wantFault(t, w.with(secondAt, 0), op, window+k, align, window+k)
		wantFault(t, w.with(windowAt, entryTo(0, pv)), op, window+0xffc+k, align, window+0xffc+k)
	}
}

// By MXR lr.w also reads what may only be fetched; sc.w and amo write what W lets be.
func TestAtomicsAndMxr(t *testing.T) {
	w := newWorld(api.Super, pv|px)
	w.status = mxr
	m := w.stands(t, base+codeAt, window, 0, "lr.w x3, x1, 0", "sc.w x4, x2, x1, 0")
	retire(t, m, 1)
	wantReg(t, m, 3, filling(pageAt))
	meets(t, m, 15, window)
	// A trap does not end the reservation.
	wantReserved(t, m, base+pageAt)
}

// What is reserved is a physical word: another address of it does as well, the same address of another word does not.
func TestReservationsArePhysical(t *testing.T) {
	for _, w := range twoPages(api.Super, pageTo(pageAt, all(api.Super)), pageTo(pageAt, all(api.Super))) {
		m := w.stands(t, base+codeAt, window+20, window+0x1000+20, "lr.w x3, x1, 0", "sc.w x4, x1, x2, 0", "lr.w x3, x1, 0", "sc.w x5, x2, x1, 0")
		retire(t, m, 1)
		wantReserved(t, m, base+pageAt+20)
		retire(t, m, 1)
		wantReg(t, m, 4, 0)
		wantRam(t, m, pageAt+20, four(window+20))
		retire(t, m, 1)
		lay(t, m, secondAt, four(pageTo(pageAt+0x1000, all(api.Super))))
		wantReserved(t, m, base+pageAt+20)
		retire(t, m, 1)
		wantReg(t, m, 5, 1)
		wantRam(t, m, pageAt+0x1000+20, four(filling(pageAt+0x1000+20)))
		wantRam(t, m, secondAt, four(pageTo(pageAt+0x1000, all(api.Super)|pa|pd)))
		wantUnreserved(t, m)
	}
}

// The walk's write into an entry is no store of the hart's and no image: a reservation of that entry stays.
func TestAWalkDoesNotEndAReservation(t *testing.T) {
	for _, w := range twoPages(api.Super, pageTo(pageAt, all(api.Super)), pageTo(secondAt, all(api.Super))) {
		m := w.stands(t, base+codeAt, window, window+0x1000, "lr.w x3, x2, 0", "sw x0, 0(x1)", "sc.w x4, x0, x2, 0")
		retire(t, m, 2)
		wantReserved(t, m, base+secondAt)
		wantRam(t, m, secondAt, four(pageTo(pageAt, all(api.Super)|pa|pd)))
		retire(t, m, 1)
		wantReg(t, m, 4, 0)
		wantRam(t, m, secondAt, four(0))
	}
}

// A load or store in mode M is not walked, nor are its portions, though satp says so.
func TestPortionsInModeM(t *testing.T) {
	w := newWorld(api.Mach, 0)
	m := w.stands(t, base+codeAt, base+pageAt+0xffe, stored, "lw x3, 0(x1)", "sw x2, 0(x1)", "amoadd.w x4, x2, x5, 0")
	s := peek(t, m, pageAt+0xffe, 4)
	ram := peek(t, m, 0, pageAt)
	retire(t, m, 2)
	wantReg(t, m, 3, wordAt(s, 0))
	wantRam(t, m, pageAt+0xffe, four(stored))
	wantRam(t, m, 0, ram)
	meets(t, m, 7, 0)
}
