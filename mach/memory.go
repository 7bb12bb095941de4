package mach

import "machine/api"

// A portion of an access: so many bytes from a physical address on; of size 0, if there is none.
type portion struct {
	address, size int
}

// load carries out lb to lhu (P11).
func (x *Machine) load(i api.Ins) exception {
	address := word(x.register(i.Rs1) + i.Imm)
	first, second, met := x.reach(address, accessSize(i.Op), api.Load)
	if !met.none() {
		return met
	}
	low := x.read(first)
	high := x.read(second)
	v := low + high<<(8*first.size)
	if i.Op == api.Lb || i.Op == api.Lh {
		v = word(extended(v, accessSize(i.Op)))
	}
	x.setRegister(i.Rd, v)
	return fine()
}

// store carries out sb to sw (P11).
func (x *Machine) store(i api.Ins) exception {
	address := word(x.register(i.Rs1) + i.Imm)
	first, second, met := x.reach(address, accessSize(i.Op), api.Store)
	if !met.none() {
		return met
	}
	v := x.register(i.Rs2)
	x.write(first, v)
	x.write(second, v>>(8*first.size))
	return fine()
}

func accessSize(op int) int {
	switch op {
	case api.Lb, api.Lbu, api.Sb:
		return 1
	case api.Lh, api.Lhu, api.Sh:
		return 2
	}
	return 4
}

// reach tells the portions of an access, or the exception that it meets.
func (x *Machine) reach(address int, size int, purpose int) (portion, portion, exception) {
	ahead := api.PageSize - address%api.PageSize
	if size <= ahead {
		whole, met := x.reachPortion(address, size, purpose)
		return whole, portion{}, met
	}
	first, met := x.reachPortion(address, ahead, purpose)
	if !met.none() {
		return portion{}, portion{}, met
	}
	second, met := x.reachPortion(word(address+ahead), size-ahead, purpose)
	if !met.none() {
		return portion{}, portion{}, met
	}
	return first, second, met
}

// reachPortion tells where a portion lies, if it may be accessed there.
func (x *Machine) reachPortion(address int, size int, purpose int) (portion, exception) {
	at, met := x.translate(address, purpose)
	if !met.none() {
		return portion{}, met
	}
	if !x.isRam(at, size) && !isTimer(at, size) && !isPort(at, size) {
		return portion{}, exception{faultCause(api.Access, purpose), address}
	}
	return portion{at, size}, met
}

// read tells what lies at a portion; of the port that may change it.
func (x *Machine) read(p portion) int {
	switch {
	case p.size == 0:
		return 0
	case isTimer(p.address, p.size):
		return x.timer.read(p.address - api.TimerBase)
	case isPort(p.address, p.size):
		v, left := x.port.read(p.address - api.PortBase)
		x.port = left
		return v
	}
	return x.ramNumber(p.address, p.size)
}

// write lays the low bytes of v at a portion.
func (x *Machine) write(p portion, v int) {
	switch {
	case p.size == 0:
		return
	case isTimer(p.address, p.size):
		x.timer = x.timer.written(p.address-api.TimerBase, word(v))
	case isPort(p.address, p.size):
		x.port = x.port.written(p.address-api.PortBase, v&0xff)
	default:
		x.setRamNumber(p.address, p.size, v)
	}
}

// isRam tells whether so many bytes from a physical address on all lie in RAM.
func (x *Machine) isRam(address int, size int) bool {
	place := address - api.RamBase
	return place >= 0 && place <= len(x.ram)-size
}

// ramNumber tells the number that lies in RAM; 0, if RAM does not have all of it.
func (x *Machine) ramNumber(address int, size int) int {
	if !x.isRam(address, size) {
		return 0
	}
	place := address - api.RamBase
	v := 0
	for k := size - 1; k >= 0; k-- {
		v = v<<8 + int(x.ram[place+k])
	}
	return v
}

// setRamNumber lays the low bytes of v in RAM; none, if RAM does not have all of their places.
func (x *Machine) setRamNumber(address int, size int, v int) {
	if !x.isRam(address, size) {
		return
	}
	place := address - api.RamBase
	for k := 0; k < size; k++ {
		x.ram[place+k] = byte(v)
		v = v >> 8
	}
}
