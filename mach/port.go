package mach

import "machine/api"

// The serial port (P9). Of bytes received and to be sent the oldest stands first.
type port struct {
	enable   int
	scratch  int
	lost     bool
	received string
	toSend   string
}

// What the port may interrupt for: bits of its enable.
const (
	whenThere = 1
	whenRoom  = 2
	whenLost  = 4
)

// isPort tells whether so many bytes from a physical address on are a place of the port.
func isPort(address int, size int) bool {
	if size != 1 {
		return false
	}
	switch address - api.PortBase {
	case api.PortData, api.PortEnable, api.PortWhy, api.PortStatus, api.PortScratch:
		return true
	}
	return false
}

// arrived tells the port behind a byte's arrival.
func (p port) arrived(b int) port {
	if len(p.received) >= api.MaxRx {
		p.lost = true
		return p
	}
	p.received = p.received + api.Le(b, 1)
	return p
}

// read tells a place's byte, and the port behind the read.
func (p port) read(at int) (int, port) {
	switch at {
	case api.PortData:
		if p.received == "" {
			return 0, p
		}
		oldest := int(p.received[0])
		p.received = p.received[1:]
		return oldest, p
	case api.PortEnable:
		return p.enable, p
	case api.PortWhy:
		return p.why(), p
	case api.PortStatus:
		status := p.status()
		p.lost = false
		return status, p
	case api.PortScratch:
		return p.scratch, p
	}
	return 0, p
}

// written tells the port behind a write.
func (p port) written(at int, b int) port {
	switch at {
	case api.PortData:
		if p.hasRoom() {
			p.toSend = p.toSend + api.Le(b, 1)
		}
	case api.PortEnable:
		p.enable = b & (whenThere | whenRoom | whenLost)
	case api.PortScratch:
		p.scratch = b
	}
	return p
}

func (p port) hasRoom() bool {
	return len(p.toSend) < api.MaxTx
}

// why tells which interrupt the port asks for; 1: none.
func (p port) why() int {
	switch {
	case p.enable&whenLost != 0 && p.lost:
		return 6
	case p.enable&whenThere != 0 && p.received != "":
		return 4
	case p.enable&whenRoom != 0 && p.hasRoom():
		return 2
	}
	return 1
}

func (p port) status() int {
	return oneIf(p.received != "") + 2*oneIf(p.lost) + 32*oneIf(p.hasRoom()) + 64*oneIf(p.toSend == "")
}

// lines tells the bits of mip that the port holds up.
func (p port) lines() int {
	asks := oneIf(p.why() != 1)
	return asks<<api.IrqMext | asks<<api.IrqSext
}
