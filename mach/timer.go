package mach

import "machine/api"

// The timer block (P9).
type timer struct {
	msip    int
	time    wide
	compare wide
}

// The timer block's words, from api.TimerBase on.
const (
	timerMsip        = 0
	timerCompareLow  = 0x4000
	timerCompareHigh = 0x4004
	timerTimeLow     = 0xbff8
	timerTimeHigh    = 0xbffc
)

// isTimer tells whether so many bytes from a physical address on are a word of the timer block.
func isTimer(address int, size int) bool {
	if size != 4 {
		return false
	}
	switch address - api.TimerBase {
	case timerMsip, timerCompareLow, timerCompareHigh, timerTimeLow, timerTimeHigh:
		return true
	}
	return false
}

func (t timer) read(at int) int {
	switch at {
	case timerMsip:
		return t.msip
	case timerCompareLow:
		return t.compare.low
	case timerCompareHigh:
		return t.compare.high
	case timerTimeLow:
		return t.time.low
	case timerTimeHigh:
		return t.time.high
	}
	return 0
}

// written tells the timer block behind a write.
func (t timer) written(at int, v int) timer {
	switch at {
	case timerMsip:
		t.msip = v & 1
	case timerCompareLow:
		t.compare.low = v
	case timerCompareHigh:
		t.compare.high = v
	case timerTimeLow:
		t.time.low = v
	case timerTimeHigh:
		t.time.high = v
	}
	return t
}

// lines tells the bits of mip that the timer block holds up.
func (t timer) lines() int {
	return t.msip<<api.IrqMsoft | oneIf(t.time.atLeast(t.compare))<<api.IrqMtime
}
