package mach_test

import (
	"testing"

	"machine/api"
)

// Each half word of a fetch is translated by itself: a word whose halves lie apart in RAM.
func TestHalvesThatLieApart(t *testing.T) {
	for _, mode := range lower() {
		first, second := pageTo(pageAt+0x2000, all(mode)), pageTo(pageAt, all(mode))
		w := newWorld(mode, 0).with(secondAt, first).with(nextAt, second)
		m := w.stands(t, window+0xffe, 0, 0)
		s := image(t, "addi x5, x0, 77", "auipc x6, 0", "c.addi x8, x8, 1")
		lay(t, m, pageAt+0x2ffe, s[:2])
		lay(t, m, pageAt, s[2:])
		retire(t, m, 1)
		wantReg(t, m, 5, 77)
		wantPc(t, m, window+0x1002)
		wantRam(t, m, secondAt, four(first|pa, second|pa))
		// pc is an address, not where it lies.
		retire(t, m, 2)
		wantReg(t, m, 6, window+0x1002)
		wantReg(t, m, 8, 1)
	}
}

// The fault's tval is that half word's address; epc is pc.
func TestHalvesThatMeetFaults(t *testing.T) {
	ram, nowhere := pageTo(pageAt, all(api.Super)), entryTo(0, all(api.Super))
	for _, c := range []struct {
		first, second int
		cause, tval   int
		marks         [2]int
	}{
		{0, ram, 12, window + 0xffe, [2]int{0, ram}},
		{0, 0, 12, window + 0xffe, [2]int{0, 0}},
		{nowhere, ram, 1, window + 0xffe, [2]int{nowhere | pa, ram}},
		{nowhere, 0, 1, window + 0xffe, [2]int{nowhere | pa, 0}},
		{ram, 0, 12, window + 0x1000, [2]int{ram | pa, 0}},
		{ram, ram &^ px, 12, window + 0x1000, [2]int{ram | pa, ram &^ px}},
		{ram, ram | pu, 12, window + 0x1000, [2]int{ram | pa, ram | pu}},
		{ram, nowhere, 1, window + 0x1000, [2]int{ram | pa, nowhere | pa}},
		{ram, entryTo(api.PortBase, all(api.Super)), 1, window + 0x1000, [2]int{ram | pa, entryTo(api.PortBase, all(api.Super)|pa)}},
	} {
		w := newWorld(api.Super, 0).with(secondAt, c.first).with(nextAt, c.second)
		m := w.stands(t, window+0xffe, 0, 0)
		lay(t, m, pageAt+0xffe, image(t, "addi x5, x0, 77")[:2])
		meets(t, m, c.cause, c.tval)
		wantReg(t, m, 5, 0)
		wantRam(t, m, secondAt, four(c.marks[0], c.marks[1]))
		if t.Failed() {
			t.Fatalf("entries %#x and %#x", c.first, c.second)
		}
	}
}

// A word of 16 bits at a page's end has no half on the next page: that is not walked.
func TestShortWordsAtAPagesEnd(t *testing.T) {
	for _, next := range []int{0, pageTo(pageAt, all(api.User)), entryTo(0, all(api.User))} {
		w := newWorld(api.User, all(api.User)).with(nextAt, next)
		m := w.stands(t, window+0xffe, 0, 0)
		lay(t, m, pageAt+0xffe, image(t, "c.addi x8, x8, 1"))
		retire(t, m, 1)
		wantReg(t, m, 8, 1)
		wantRam(t, m, secondAt, four(pageTo(pageAt, all(api.User)|pa), next))
		// One that means nothing does not have it either.
		m = w.stands(t, window+0xffe, 0, 0)
		lay(t, m, pageAt+0xffe, "\x00\x00")
		meets(t, m, 2, 0)
		wantRam(t, m, nextAt, four(next))
	}
}

// A word that means nothing across two pages: tval is the word.
func TestIllegalWordsAcrossPages(t *testing.T) {
	w := newWorld(api.User, all(api.User)).with(nextAt, pageTo(pageAt+0x1000, all(api.User)))
	m := w.stands(t, window+0xffe, 0, 0)
	lay(t, m, pageAt+0xffe, "\xff\xff\x34\x12")
	meets(t, m, 2, 0x1234ffff)
	wantRam(t, m, secondAt, four(pageTo(pageAt, all(api.User)|pa), pageTo(pageAt+0x1000, all(api.User)|pa)))
}

// Behind the highest address comes 0, for a fetch too.
func TestHalvesAroundTheHighestAddress(t *testing.T) {
	high, low := pageTo(pageAt+0x1000, all(api.Super)), pageTo(pageAt, all(api.Super))
	w := newWorld(api.Super, 0).with(rootAt, pageTo(secondAt, pv)).with(rootAt+4*0x3ff, pageTo(secondAt, pv)).with(secondAt+4*0x3ff, high)
	s := image(t, "jalr x5, 0(x0)")
	m := w.with(secondAt, low).stands(t, 0xfffffffe, 0, 0)
	lay(t, m, pageAt+0x1ffe, s[:2])
	lay(t, m, pageAt, s[2:])
	retire(t, m, 1)
	wantReg(t, m, 5, 2)
	wantPc(t, m, 0)
	m = w.with(secondAt, 0).stands(t, 0xfffffffe, 0, 0)
	lay(t, m, pageAt+0x1ffe, s[:2])
	meets(t, m, 12, 0)
}

// RAM ends within a page.
func TestFetchesAtRamsEnd(t *testing.T) {
	for more := range 5 {
		w := newWorld(api.Super, all(api.Super))
		w.size = pageAt + 8 + more
		m := w.stands(t, window+8, 0, 0)
		lay(t, m, pageAt+8, image(t, "addi x5, x0, 77")[:more])
		switch {
		case more < 2:
			meets(t, m, 1, window+8)
		case more < 4:
			meets(t, m, 1, window+10)
		default:
			retire(t, m, 1)
			wantReg(t, m, 5, 77)
		}
		wantRam(t, m, secondAt, four(pageTo(pageAt, all(api.Super)|pa)))
	}
}

// A store into a table counts from the next access on, without sfence.vma.
func TestStoresIntoTables(t *testing.T) {
	before, after := pageTo(pageAt, all(api.Super)), pageTo(pageAt+0x1000, all(api.Super))
	w := newWorld(api.Super, all(api.Super))
	for _, place := range []int{secondAt, windowAt} {
		entry := after
		if place == windowAt {
			entry = pageTo(pageAt+0x3000, pv)
		}
		for _, store := range []string{"sw x2, 0(x6)", "amoswap.w x0, x2, x6, 0", "lr.w x0, x6, 0\nsc.w x7, x2, x6, 0", "sh x2, 0(x6)\nsrli x2, x2, 16\nsh x2, 2(x6)"} {
			lines := image(t, set(6, base+place), "lw x3, 4(x1)", store, "lw x4, 4(x1)", "jalr x0, 8(x1)")
			m := w.with(pageAt+0x3000, after).stands(t, base+codeAt, window, entry)
			lay(t, m, codeAt, lines)
			retire(t, m, len(lines)/4)
			wantReg(t, m, 3, filling(pageAt+4))
			wantReg(t, m, 4, filling(pageAt+0x1004))
			retire(t, m, 1)
			wantReg(t, m, 3, fillingDone(pageAt+0x1008))
		}
		// An image.
		m := w.with(pageAt+0x3000, after).stands(t, base+codeAt, window, 0, "lw x3, 4(x1)", "lw x4, 4(x1)", "lw x5, 4(x1)", "lw x6, 4(x1)")
		retire(t, m, 1)
		was := peek(t, m, place, 4)
		lay(t, m, place, four(entry))
		retire(t, m, 1)
		wantReg(t, m, 4, filling(pageAt+0x1004))
		lay(t, m, place, was)
		retire(t, m, 1)
		wantReg(t, m, 5, filling(pageAt+4))
		lay(t, m, place, four(0))
		meets(t, m, 13, window+4)
		wantRam(t, m, secondAt, four(map[bool]int{true: 0, false: before | pa}[place == secondAt]))
	}
}

// A store changes where the next word is fetched: the very next one, on the page that is being carried out.
func TestAStoreMovesThePageThatIsCarriedOut(t *testing.T) {
	w := newWorld(api.Super, all(api.Super))
	m := w.stands(t, window+0x10, base+secondAt, pageTo(pageAt+0x1000, all(api.Super)))
	lay(t, m, pageAt+0x10, image(t, "sw x2, 0(x1)", "addi x5, x0, 1"))
	lay(t, m, pageAt+0x1014, image(t, "addi x5, x0, 2"))
	retire(t, m, 2)
	wantReg(t, m, 5, 2)
	wantRam(t, m, secondAt, four(pageTo(pageAt+0x1000, all(api.Super)|pa)))
	// One that is gone.
	m = w.stands(t, window+0x10, base+secondAt, 0)
	lay(t, m, pageAt+0x10, image(t, "sw x2, 0(x1)", "addi x5, x0, 1"))
	retire(t, m, 1)
	meets(t, m, 12, window+0x14)
	// One that is no longer for fetching.
	m = w.stands(t, window+0x10, base+secondAt, pageTo(pageAt, pv|pr|pw))
	lay(t, m, pageAt+0x10, image(t, "sw x2, 0(x1)", "addi x5, x0, 1"))
	retire(t, m, 1)
	meets(t, m, 12, window+0x14)
}

// What is stored through one address is fetched and loaded through another.
func TestTwoAddressesOfOnePage(t *testing.T) {
	for _, w := range twoPages(api.Super, pageTo(pageAt, all(api.Super)), pageTo(pageAt, all(api.Super))) {
		m := w.stands(t, base+codeAt, window, window+0x1000, set(4, wordAt(image(t, "addi x5, x0, 99"), 0)), "sw x4, 32(x1)", "lw x6, 32(x2)", "jalr x0, 32(x2)")
		retire(t, m, 4)
		wantReg(t, m, 6, wordAt(image(t, "addi x5, x0, 99"), 0))
		if w.mode == api.Super {
			retire(t, m, 2)
			wantReg(t, m, 5, 99)
		}
	}
}

// What a walk wrote is what the access itself finds: here the page is the table.
func TestAPageThatIsItsOwnTable(t *testing.T) {
	for _, w := range ways(api.Load, api.Super, 0) {
		entry := pageTo(secondAt, all(api.Super))
		w = w.with(secondAt, entry)
		m := w.stands(t, base+codeAt, window, stored, "lw x3, 0(x1)")
		retire(t, m, 1)
		wantReg(t, m, 3, entry|pa)
		m = w.stands(t, base+codeAt, window, stored, "amoadd.w x3, x0, x1, 0")
		retire(t, m, 1)
		wantReg(t, m, 3, entry|pa|pd)
		wantRam(t, m, secondAt, four(entry|pa|pd))
		m = w.stands(t, base+codeAt, window, stored, "sw x2, 0(x1)")
		retire(t, m, 1)
		wantRam(t, m, secondAt, four(stored))
		// A byte of the entry goes; the others are as the walk left them.
		m = w.stands(t, base+codeAt, window, stored, "sb x2, 3(x1)")
		retire(t, m, 1)
		wantRam(t, m, secondAt, four(entry | pa | pd)[:3]+four(stored)[:1])
	}
	// As a word the entry is an amo instruction; once A is set in it, it is jal x16, 512.
	w := newWorld(api.Super, 0).with(secondAt, 0x2000082f)
	m := w.stands(t, window, 0, 0)
	retire(t, m, 1)
	wantRam(t, m, secondAt, four(0x2000086f))
	wantReg(t, m, 16, window+4)
	wantPc(t, m, window+512)
}

// The second portion's walk finds what the first portion's wrote, and what the store writes comes behind both.
func TestAStoreAcrossTables(t *testing.T) {
	// The window's second page is the second table; the store's second half falls on the first page's entry.
	first, second := pageTo(pageAt, all(api.Super)), pageTo(secondAt, all(api.Super))
	for _, w := range twoPages(api.Super, first, second) {
		m := w.stands(t, base+codeAt, window+0xffe, 0x2000ffff, "sw x2, 0(x1)")
		retire(t, m, 1)
		wantRam(t, m, pageAt+0xffe, "\xff\xff")
		wantRam(t, m, secondAt, four(first&^0xffff|0x2000, second|pa|pd))
	}
}

// satp that is written counts from the next step on, in mode S at the next word already.
func TestSatpCountsAtOnce(t *testing.T) {
	const otherRoot = 0x5000
	w := newWorld(api.Super, all(api.Super)).with(otherRoot+4*0x200, entryTo(base, all(api.Super))).with(otherRoot+4, entryTo(base, all(api.Super)))
	next := 1<<31 | (base+otherRoot)>>12
	m := w.stands(t, window+0x20, next, 0)
	lay(t, m, pageAt+0x20, image(t, "csrrw x4, 0x180, x1", "addi x5, x0, 1"))
	lay(t, m, 0x24, image(t, "addi x5, x0, 2", "csrrw x0, 0x180, x0"))
	retire(t, m, 2)
	wantReg(t, m, 4, worldSatp)
	wantReg(t, m, 5, 2)
	wantRam(t, m, otherRoot+4, four(entryTo(base, all(api.Super)|pa)))
	// Off: the address is physical then, and nothing lies there.
	retire(t, m, 1)
	meets(t, m, 1, window+0x2c)
}

// A trap to mode M ends translation, and mret begins it again.
func TestTranslationEndsInModeM(t *testing.T) {
	w := newWorld(api.User, all(api.User))
	m := w.stands(t, window+0x20, 0, 0)
	lay(t, m, pageAt+0x20, image(t, "ebreak", "addi x5, x0, 1"))
	lay(t, m, trapsAt-base, image(t, "csrrs x6, 0x341, x0", "addi x6, x6, 4", "csrrw x0, 0x341, x6", "mret"))
	meets(t, m, 3, window+0x20)
	retire(t, m, 4)
	wantMode(t, m, api.User)
	retire(t, m, 1)
	wantReg(t, m, 5, 1)
}

// A trap to mode S goes on at an address that is translated.
func TestTrapsToPages(t *testing.T) {
	w := newWorld(api.User, all(api.User))
	w.deleg = 1 << 13
	m := w.stands(t, base+codeAt, window+0x1080, 0, "lw x3, 0(x1)")
	lay(t, m, trapsAt-base, image(t, "addi x5, x0, 1"))
	wantStep(t, m, api.Exception, 13)
	wantMode(t, m, api.Super)
	wantPc(t, m, trapsAt)
	twin := m.Copy()
	lay(t, twin, rootAt+4*0x200, four(entryTo(base, all(api.Super))))
	retire(t, twin, 1)
	wantReg(t, twin, 5, 1)
	wantRam(t, twin, rootAt+4*0x200, four(entryTo(base, all(api.Super)|pa)))
	// As long as the page of stvec is one of mode U, mode S does not fetch from it.
	meets(t, m, 12, trapsAt)
}

// sfence.vma changes nothing but pc and the counters: not even entries.
func TestSfenceChangesNothingOfTables(t *testing.T) {
	for _, line := range []string{"sfence.vma x0, x0", "sfence.vma x1, x0", "sfence.vma x0, x2", "sfence.vma x1, x2"} {
		for _, w := range ways(api.Load, api.Super, all(api.Super)) {
			m := w.stands(t, base+codeAt, window, 1, "lw x3, 0(x1)", line, "lw x4, 4(x1)")
			retire(t, m, 1)
			ram, before := peek(t, m, 0, w.size), m.Show()
			retire(t, m, 1)
			wantRam(t, m, 0, ram)
			after := m.Show()
			counters := csrsAt + 4*19
			if after[4:counters] != before[4:counters] || after[devicesAt:] != before[devicesAt:] {
				t.Errorf("%s changes something", line)
			}
			retire(t, m, 1)
			wantReg(t, m, 4, filling(pageAt+4))
		}
	}
}

// Flush changes nothing: neither what looks tell nor how the machine goes on (P7).
func TestFlushAmongWalks(t *testing.T) {
	for _, mode := range lower() {
		m := newWorld(mode, all(mode)).stands(t, window, window+0x100, 5)
		lay(t, m, pageAt, image(t, "lw x3, 0(x1)", "sw x2, 4(x1)", "lr.w x4, x1, 0", "c.addi x8, x8, 1", "sc.w x4, x2, x1, 0", "jalr x0, 0(x1)"))
		twin := m.Copy()
		for range 8 {
			before := whole(t, m)
			m.Flush()
			if whole(t, m) != before {
				t.Fatalf("Flush changes something")
			}
			got, want := m.Step(), twin.Step()
			if got != want || whole(t, m) != whole(t, twin) {
				t.Fatalf("behind Flush: %v, want %v", got, want)
			}
		}
	}
}

// A copy has tables of its own (P7).
func TestCopiesHaveTheirOwnTables(t *testing.T) {
	m := newWorld(api.Super, all(api.Super)).stands(t, base+codeAt, window, 0, "lw x3, 0(x1)", "lw x4, 4(x1)")
	retire(t, m, 1)
	twin := m.Copy()
	lay(t, m, secondAt, four(0))
	retire(t, twin, 1)
	wantReg(t, twin, 4, filling(pageAt+4))
	meets(t, m, 13, window+4)
	wantRam(t, twin, secondAt, four(pageTo(pageAt, all(api.Super)|pa)))
}

// Reset ends translation; the tables stay (P7).
func TestResetEndsTranslation(t *testing.T) {
	m := newWorld(api.Super, all(api.Super)).stands(t, window, 0, 0)
	retire(t, m, 1)
	ram := peek(t, m, 0, m.Size())
	m.Reset()
	wantPc(t, m, base)
	wantMode(t, m, api.Mach)
	wantCsr(t, m, api.CsrSatp, 0)
	retire(t, m, 1)
	wantRam(t, m, 0, ram)
}
