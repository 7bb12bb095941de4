package mach_test

import "machine/api"

// The model's memory: RAM alone, and how accesses are translated (P8, P11, P12).

const (
	pv, pr, pw, px, pu, pg, pa, pd = 1 << 0, 1 << 1, 1 << 2, 1 << 3, 1 << 4, 1 << 5, 1 << 6, 1 << 7 // bits of an entry
	sum                            = 1 << 18                                                        // bits of mstatus
	mxr                            = 1 << 19
)

const nothingReserved = "-\x00\x00\x00\x00\x00"

// faultCauses are the causes of faults, by what the access is for and by the fault.
var faultCauses = [3][3]int{
	api.Fetch: {api.Fine: -1, api.Page: 12, api.Access: 1},
	api.Load:  {api.Fine: -1, api.Page: 13, api.Access: 5},
	api.Store: {api.Fine: -1, api.Page: 15, api.Access: 7},
}

func (o *model) inRam(at int, n int) bool { return at >= base && at+n <= base+len(o.ram) }

func (o *model) word(at int) int { return wordAt(string(o.ram[at-base:at-base+4]), 0) }

func (o *model) setWord(at int, v int) { copy(o.ram[at-base:], four(v)) }

// walk tells the physical address of an access, or a fault.
func (o *model) walk(address int, purpose int) (int, int) {
	mode := o.mode
	if purpose != api.Fetch && o.status(mprv) {
		mode = o.csr[api.CsrMstatus] >> 11 & 3
	}
	satp := o.csr[api.CsrSatp]
	if mode == api.Mach || satp < 1<<31 {
		return address, api.Fine
	}
	table := satp & 0x3fffff
	for _, shift := range []int{22, 12} {
		at := table<<12 | address>>shift&0x3ff<<2
		if !o.inRam(at, 4) {
			return 0, api.Access
		}
		e := o.word(at)
		has := func(bits int) bool { return e&bits == bits }
		switch {
		case !has(pv), has(pw) && !has(pr):
			return 0, api.Page
		case !has(pr) && !has(px):
			if shift == 12 || has(pu) || has(pa) || has(pd) {
				return 0, api.Page
			}
			table = e >> 10
			continue
		case mode == api.User && !has(pu):
			return 0, api.Page
		case mode == api.Super && has(pu) && (purpose == api.Fetch || !o.status(sum)):
			return 0, api.Page
		case purpose == api.Fetch && !has(px), purpose == api.Store && !has(pw):
			return 0, api.Page
		case purpose == api.Load && !has(pr) && !(has(px) && o.status(mxr)):
			return 0, api.Page
		case e>>10<<12&(1<<shift-1) != 0:
			return 0, api.Page
		}
		o.setWord(at, e|pa|map[bool]int{true: pd}[purpose == api.Store])
		return e>>10<<12 | address&(1<<shift-1), api.Fine
	}
	return 0, api.Page
}

// reach tells where bytes lie in RAM, one by one; or the cause and the tval of the fault.
func (o *model) reach(address int, n int, purpose int) ([]int, int, int) {
	var places []int
	for n > 0 {
		size := min(n, 0x1000-address&0xfff)
		at, fault := o.walk(address, purpose)
		if fault == api.Fine && !o.inRam(at, size) {
			fault = api.Access
		}
		if fault != api.Fine {
			return nil, faultCauses[purpose][fault], address
		}
		for k := range size {
			places = append(places, at-base+k)
		}
		n -= size
		address = (address + size) & 0xffffffff
	}
	return places, -1, 0
}

// fetch tells the word at pc; or the cause and the tval of the fault.
func (o *model) fetch() (int, int, int) {
	w := 0
	for k := 0; k < 2 && (k == 0 || w&3 == 3); k++ {
		places, cause, tval := o.reach((o.pc+2*k)&0xffffffff, 2, api.Fetch)
		if cause >= 0 {
			return 0, cause, tval
		}
		w |= (int(o.ram[places[0]]) | int(o.ram[places[1]])<<8) << (16 * k)
	}
	return w, -1, 0
}

// access carries out a load, a store, lr.w, sc.w or an amo instruction; it tells the cause and the tval of what it meets, or -1.
func (o *model) access(i api.Ins) (int, int) {
	if i.Op >= api.LrW {
		return o.atomic(i)
	}
	purpose := api.Load
	if i.Op >= api.Sb {
		purpose = api.Store
	}
	places, cause, tval := o.reach((o.x[i.Rs1]+i.Imm)&0xffffffff, sizes(i.Op), purpose)
	if cause >= 0 {
		return cause, tval
	}
	if purpose == api.Store {
		for k, at := range places {
			o.ram[at] = byte(o.x[i.Rs2] >> (8 * k))
		}
		return -1, 0
	}
	s := ""
	for _, at := range places {
		s += string(o.ram[at : at+1])
	}
	o.setReg(i.Rd, loaded(i.Op, s))
	return -1, 0
}

func (o *model) atomic(i api.Ins) (int, int) {
	address, purpose, align := o.x[i.Rs1], api.Store, 6
	if i.Op == api.LrW {
		purpose, align = api.Load, 4
	}
	if address%4 != 0 {
		return align, address
	}
	places, cause, tval := o.reach(address, 4, purpose)
	if cause >= 0 {
		return cause, tval
	}
	at := base + places[0]
	reserved := "r" + four(at) + "\x00"
	was, v := o.word(at), o.x[i.Rs2]
	switch i.Op {
	case api.LrW:
		o.setReg(i.Rd, was)
		o.reservation = reserved
	case api.ScW:
		o.setReg(i.Rd, 1)
		if o.reservation == reserved {
			o.setReg(i.Rd, 0)
			o.setWord(at, v)
		}
		o.reservation = nothingReserved
	default:
		o.setWord(at, int(modifiedWord(i.Op, uint32(was), uint32(v))))
		o.setReg(i.Rd, was)
	}
	return -1, 0
}
