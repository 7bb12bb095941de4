package mach_test

import (
	"math/rand"
	"testing"

	"machine/api"
	"machine/isa"
	"machine/mach"
)

// chanceImage tells a program by chance, most of whose words mean something.
func chanceImage(r *rand.Rand, n int) string {
	s := ""
	for len(s) < n {
		w := int(r.Uint32())
		if r.Intn(2) == 0 {
			w &= 0xffff
		}
		i, e := isa.Decode(w)
		if e == api.OK && (i.Op != api.Illegal || r.Intn(50) == 0) {
			s += api.Le(w, i.Len)
		}
	}
	return s[:n]
}

// sound tells whether a machine's numbers are such as they may be.
func sound(t *testing.T, m *mach.Machine) {
	t.Helper()
	for i := range 32 {
		if v := reg(t, m, i); v < 0 || v > 1<<32-1 || i == 0 && v != 0 {
			t.Fatalf("x%d is %d", i, v)
		}
	}
	if m.Pc() < 0 || m.Pc() > 1<<32-1 || m.Pc()%2 != 0 {
		t.Fatalf("pc is %d", m.Pc())
	}
	for n := range 0x1000 {
		if v, e := m.Csr(n); v < 0 || v > 1<<32-1 || (e == api.OK) != isCsr(n) {
			t.Fatalf("Csr(%#x): %d, %v", n, v, e)
		}
	}
}

// Every call ends and none panics, and a machine that is flushed at each step goes on alike (P1, P7).
func TestProgramsByChance(t *testing.T) {
	r := rand.New(rand.NewSource(1))
	for range 200 {
		size := []int{0, 1, 7, 64, 255, 4096, 4101, api.MaxRam}[r.Intn(8)]
		m := made(t, size)
		lay(t, m, 0, chanceImage(r, min(size, 4096)))
		twin := m.Copy()
		for range 100 {
			if d := m.Step(); d.Kind == api.Exception && m.Pc() == 0 {
				m.Reset()
				twin.Step()
				twin.Reset()
				// Elsewhere the next time: the word that met the exception goes.
				at := r.Intn(size + 1)
				s := chanceImage(r, min(size-at, 4))
				lay(t, m, at, s)
				lay(t, twin, at, s)
				continue
			}
			twin.Step()
			twin.Flush()
			n := r.Intn(api.MaxTick)
			m.Tick(n)
			twin.Tick(n)
		}
		sound(t, m)
		if m.Show() != twin.Show() || peek(t, m, 0, size) != peek(t, twin, 0, size) {
			t.Fatalf("two machines that did the same differ")
		}
	}
}
