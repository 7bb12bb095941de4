package mach

import "machine/api"

// Bits of satp.
const (
	satpWalks = 1 << 31
	satpRoot  = 1<<22 - 1 // the root table's page number
)

// Bits of a table's entry.
const (
	entryValid    = 1 << 0
	entryRead     = 1 << 1
	entryWrite    = 1 << 2
	entryFetch    = 1 << 3
	entryUser     = 1 << 4
	entryAccessed = 1 << 6
	entryDirty    = 1 << 7
)

const (
	entrySize   = 4
	tableLength = 1 << 10                    // entries
	bigPage     = tableLength * api.PageSize // what a leaf of the root table stands for
)

// A leaf is the entry that ends a walk.
type leaf struct {
	at     int // the entry's physical address
	entry  int
	inPage int // the bits of an address that tell the place in the leaf's page
}

// translate tells the physical address of an access, or the exception that it meets (P12).
func (x *Machine) translate(address int, purpose int) (int, exception) {
	mode := x.accessMode(purpose)
	if mode == api.Mach || x.csrs.satp&satpWalks == 0 {
		return address, fine()
	}
	end, fault := x.walk(address)
	if fault == api.Fine && !x.permits(end.entry, mode, purpose) {
		fault = api.Page
	}
	if fault != api.Fine {
		return 0, exception{faultCause(fault, purpose), address}
	}
	x.mark(end, purpose)
	return pageAddress(end.entry) + address&end.inPage, fine()
}

// accessMode tells the mode that an access is done in.
func (x *Machine) accessMode(purpose int) int {
	if purpose != api.Fetch && x.csrs.mstatus&statusMprv != 0 {
		return (x.csrs.mstatus & statusMpp) >> statusMppShift
	}
	return x.hart.mode
}

// walk tells the leaf of an address; or, beside nothing, which fault the tables hold for it.
func (x *Machine) walk(address int) (leaf, int) {
	root := (x.csrs.satp & satpRoot) * api.PageSize
	at := root + entrySize*(address/bigPage)
	entry, fault := x.tableEntry(at)
	if fault != api.Fine {
		return leaf{}, fault
	}
	if isPointer(entry) {
		return x.walkSecond(entry, address)
	}
	if pageAddress(entry)%bigPage != 0 {
		return leaf{}, api.Page
	}
	return leaf{at, entry, bigPage - 1}, api.Fine
}

// walkSecond goes on where an entry of the root table points.
func (x *Machine) walkSecond(pointer int, address int) (leaf, int) {
	if pointer&(entryUser|entryAccessed|entryDirty) != 0 {
		return leaf{}, api.Page
	}
	at := pageAddress(pointer) + entrySize*(address/api.PageSize%tableLength)
	entry, fault := x.tableEntry(at)
	if fault != api.Fine {
		return leaf{}, fault
	}
	if isPointer(entry) {
		return leaf{}, api.Page
	}
	return leaf{at, entry, api.PageSize - 1}, api.Fine
}

// tableEntry tells the entry at a physical address; or, beside 0, the fault of one that can't be used.
func (x *Machine) tableEntry(at int) (int, int) {
	if !x.isRam(at, entrySize) {
		return 0, api.Access
	}
	entry := x.ramNumber(at, entrySize)
	if entry&entryValid == 0 || entry&(entryRead|entryWrite) == entryWrite {
		return 0, api.Page
	}
	return entry, api.Fine
}

func isPointer(entry int) bool {
	return entry&(entryRead|entryFetch) == 0
}

// pageAddress tells where the page or the table lies that an entry names.
func pageAddress(entry int) int {
	return (entry >> 10) * api.PageSize
}

// permits tells whether a leaf lets an access be.
func (x *Machine) permits(entry int, mode int, purpose int) bool {
	ofUser := entry&entryUser != 0
	if mode == api.User && !ofUser {
		return false
	}
	if mode == api.Super && ofUser && (purpose == api.Fetch || x.csrs.mstatus&statusSum == 0) {
		return false
	}
	return entry&x.permitting(purpose) != 0
}

// permitting tells the bits of a leaf each of which lets an access for a purpose be.
func (x *Machine) permitting(purpose int) int {
	switch {
	case purpose == api.Fetch:
		return entryFetch
	case purpose == api.Store:
		return entryWrite
	case x.csrs.mstatus&statusMxr != 0:
		return entryRead | entryFetch
	}
	return entryRead
}

// mark lays into a leaf's entry that its page was accessed.
func (x *Machine) mark(end leaf, purpose int) {
	marked := end.entry | entryAccessed
	if purpose == api.Store {
		marked = marked | entryDirty
	}
	x.setRamNumber(end.at, entrySize, marked)
}

// faultCause tells the cause of a page fault or an access fault.
func faultCause(fault int, purpose int) int {
	page := fault == api.Page
	switch purpose {
	case api.Fetch:
		return choose(page, api.CauseFetchPage, api.CauseFetchAccess)
	case api.Load:
		return choose(page, api.CauseLoadPage, api.CauseLoadAccess)
	}
	return choose(page, api.CauseStorePage, api.CauseStoreAccess)
}
