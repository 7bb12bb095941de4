package mach

import "machine/api"

// A hart without its CSRs.
type hart struct {
	registers   [32]int
	pc          int
	mode        int
	waits       bool
	reserved    bool
	reservation int // the physical address of the reserved word; 0 if none is
}

func (x *Machine) register(i int) int {
	if i < 0 || i >= len(x.hart.registers) {
		return 0
	}
	return x.hart.registers[i]
}

func (x *Machine) setRegister(i int, v int) {
	// x0 is always 0.
	if i < 1 || i >= len(x.hart.registers) {
		return
	}
	x.hart.registers[i] = v
}

func (x *Machine) reserve(address int) {
	x.hart.reserved = true
	x.hart.reservation = address
}

func (x *Machine) unreserve() {
	x.hart.reserved = false
	x.hart.reservation = 0
}

// unreserveWritten ends the reservation of a word, if one of its bytes is among so many from a place of RAM on.
func (x *Machine) unreserveWritten(place int, size int) {
	at := x.hart.reservation - api.RamBase
	if x.hart.reserved && size > 0 && at < place+size && place < at+4 {
		x.unreserve()
	}
}
