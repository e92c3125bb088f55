package machine_test

import (
	"math"
	"slices"
	"testing"

	"typecase/api"
	"typecase/machine"
	"typecase/mem"
)

const last = 1<<32 - 1

// state is one whose memory has these bytes at an address, where its pc is, too.
func state(at uint32, code ...byte) api.State {
	m := mem.New()
	m.Lay(at, code)
	return api.State{PC: at, Mem: m.Cells()}
}

// bytes are those of words, the lowest first.
func bytes(words ...uint32) []byte {
	var b []byte
	for _, w := range words {
		b = append(b, byte(w), byte(w>>8), byte(w>>16), byte(w>>24))
	}
	return b
}

func same(a, b api.State) bool {
	return a.Regs == b.Regs && a.PC == b.PC && slices.Equal(a.Mem, b.Mem)
}

func TestNewAndState(t *testing.T) {
	s := api.State{PC: 77, Mem: []api.Cell{{At: 9, Byte: 1}, {At: 3, Byte: 4}, {At: 9, Byte: 2}, {At: 5, Byte: 0}}}
	for k := range s.Regs {
		s.Regs[k] = uint32(k + 1)
	}
	m := machine.New(s)
	s.Mem[0].Byte = 99
	want := api.State{Regs: s.Regs, PC: 77, Mem: []api.Cell{{At: 3, Byte: 4}, {At: 9, Byte: 2}}}
	want.Regs[0] = 0
	if got := m.State(); !same(got, want) {
		t.Errorf("P7.1: %v", got)
	}
	got := m.State()
	got.Mem[0].Byte = 55
	if !same(m.State(), want) {
		t.Error("P7.1: what is told is the machine's own")
	}
}

func TestFetch(t *testing.T) {
	for _, c := range []struct {
		s    api.State
		want api.Ins
		size int
	}{
		{state(0, 0x15, 0x45), api.Ins{Op: api.Addi, Rd: 10, Imm: 5}, 2},
		{state(last, 0x15, 0x45), api.Ins{Op: api.Addi, Rd: 10, Imm: 5}, 2},
		{state(7, bytes(0x00500093)...), api.Ins{Op: api.Addi, Rd: 1, Imm: 5}, 4},
		{state(last-2, bytes(0x00500093)...), api.Ins{Op: api.Addi, Rd: 1, Imm: 5}, 4},
		{state(4, bytes(0x00000073)...), api.Ins{Op: api.Ecall}, 4},
		{state(4, 0x02, 0x90), api.Ins{Op: api.Ebreak}, 2},
		{state(4), api.Ins{}, 0},
		{state(4, bytes(0xFFFFFFFF)...), api.Ins{}, 0},
		{state(4, bytes(0x0000001F)...), api.Ins{}, 0},
		{state(4, bytes(0x0000000B)...), api.Ins{}, 0},
	} {
		i, size, ok := machine.New(c.s).Fetch()
		if i != c.want || size != c.size || ok != (c.size > 0) {
			t.Errorf("P7.1: at %#x %v: %v, %d, %v", c.s.PC, c.s.Mem, i, size, ok)
		}
	}
}

func TestStep(t *testing.T) {
	for _, c := range []struct {
		name    string
		code    []byte
		change  func(s *api.State)
		outcome machine.Outcome
	}{
		{"c.li a0, 5", []byte{0x15, 0x45}, func(s *api.State) { s.Regs[10] = 5; s.PC += 2 }, machine.Went},
		{"addi x0, x0, 5", bytes(0x00500013), func(s *api.State) { s.PC += 4 }, machine.Went},
		{"jal ra, .-4", bytes(0xFFDFF0EF), func(s *api.State) { s.Regs[1] = s.PC + 4; s.PC -= 4 }, machine.Went},
		{"jalr ra, 1(ra)", bytes(0x001080E7), func(s *api.State) { s.Regs[1], s.PC = s.PC+4, s.Regs[1] }, machine.Went},
		{"c.jalr ra", []byte{0x82, 0x90}, func(s *api.State) { s.Regs[1], s.PC = s.PC+2, s.Regs[1] }, machine.Went},
		{"lb t0, 1(sp)", bytes(0x00110283), func(s *api.State) { s.Regs[5] = 0xFFFFFF82; s.PC += 4 }, machine.Went},
		{"lbu t0, 1(sp)", bytes(0x00114283), func(s *api.State) { s.Regs[5] = 0x82; s.PC += 4 }, machine.Went},
		{"lh t0, 0(sp)", bytes(0x00011283), func(s *api.State) { s.Regs[5] = 0xFFFF8281; s.PC += 4 }, machine.Went},
		{"lhu t0, 0(sp)", bytes(0x00015283), func(s *api.State) { s.Regs[5] = 0x8281; s.PC += 4 }, machine.Went},
		{"lw t0, 0(sp)", bytes(0x00012283), func(s *api.State) { s.Regs[5] = 0x84838281; s.PC += 4 }, machine.Went},
		{"lw x0, 0(sp)", bytes(0x00012003), func(s *api.State) { s.PC += 4 }, machine.Went},
		{"sb x0, 2(sp)", bytes(0x00010123), func(s *api.State) { s.Mem = without(s.Mem, 2002); s.PC += 4 }, machine.Went},
		{"sh t1, 0(sp)", bytes(0x00611023), func(s *api.State) { s.Mem = with(s.Mem, 2000, 0x66, 0x77); s.PC += 4 }, machine.Went},
		{"sw t1, -2(sp)", bytes(0xFE612F23), func(s *api.State) { s.Mem = with(s.Mem, 1998, 0x66, 0x77, 0x88, 0x99); s.PC += 4 }, machine.Went},
		{"beq sp, sp, .+8", bytes(0x00210463), func(s *api.State) { s.PC += 8 }, machine.Went},
		{"bne sp, sp, .+8", bytes(0x00211463), func(s *api.State) { s.PC += 4 }, machine.Went},
		{"fence", bytes(0x0FF0000F), func(s *api.State) { s.PC += 4 }, machine.Went},
		{"lui t0, 0xFFFFF", bytes(0xFFFFF2B7), func(s *api.State) { s.Regs[5] = 0xFFFFF000; s.PC += 4 }, machine.Went},
		{"ecall", bytes(0x00000073), func(s *api.State) {}, machine.Ecall},
		{"ebreak", bytes(0x00100073), func(s *api.State) {}, machine.Ebreak},
		{"c.ebreak", []byte{0x02, 0x90}, func(s *api.State) {}, machine.Ebreak},
		{"nothing", nil, func(s *api.State) {}, machine.Illegal},
		{"a row of 1", bytes(0xFFFFFFFF), func(s *api.State) {}, machine.Illegal},
	} {
		m := mem.New()
		m.Lay(1000, c.code)
		m.Lay(2000, []byte{0x81, 0x82, 0x83, 0x84})
		s := api.State{PC: 1000, Mem: m.Cells()}
		s.Regs[1], s.Regs[2], s.Regs[6] = 3000, 2000, 0x99887766
		want := api.State{Regs: s.Regs, PC: s.PC, Mem: m.Cells()}
		c.change(&want)
		machineOf := machine.New(s)
		outcome := machineOf.Step()
		if got := machineOf.State(); outcome != c.outcome || !same(got, want) {
			t.Errorf("P7.2: %s: %d, %v", c.name, outcome, got)
		}
		checkLittleChanges(t, c.name, s, machineOf.State())
	}
}

func with(cells []api.Cell, at uint32, b ...byte) []api.Cell {
	m := mem.New(cells...)
	m.Lay(at, b)
	return m.Cells()
}

func without(cells []api.Cell, at uint32) []api.Cell { return with(cells, at, 0) }

// checkLittleChanges holds that a step changes at most one register, and four bytes.
func checkLittleChanges(t *testing.T, name string, before, after api.State) {
	registers := 0
	for k := range before.Regs {
		if before.Regs[k] != after.Regs[k] {
			registers++
		}
	}
	one, other := mem.New(before.Mem...), mem.New(after.Mem...)
	changed := map[uint32]bool{}
	for _, c := range append(slices.Clone(before.Mem), after.Mem...) {
		if one.Load(c.At, 1) != other.Load(c.At, 1) {
			changed[c.At] = true
		}
	}
	if registers > 1 || len(changed) > 4 {
		t.Errorf("P7.3: %s changes %d registers, %d bytes", name, registers, len(changed))
	}
}

func TestRun(t *testing.T) {
	loop := state(64, 0x01, 0xA0)                     // j .
	four := state(0, 0x01, 0, 0x01, 0, 0x01, 0, 1, 0) // c.nop, four times
	trap := state(0, append([]byte{0x01, 0}, bytes(0x00000073)...)...)
	for _, c := range []struct {
		s       api.State
		most    int
		went    int
		outcome machine.Outcome
		pc      uint32
	}{
		{loop, 0, 0, machine.Went, 64}, {loop, -1, 0, machine.Went, 64}, {loop, math.MinInt, 0, machine.Went, 64},
		{loop, 1, 1, machine.Went, 64}, {loop, 65536, 65536, machine.Went, 64}, {loop, 65537, 65536, machine.Went, 64}, {loop, math.MaxInt, 65536, machine.Went, 64},
		{four, 3, 3, machine.Went, 6}, {four, 4, 4, machine.Went, 8}, {four, 5, 4, machine.Illegal, 8},
		{trap, 1, 1, machine.Went, 2}, {trap, 2, 1, machine.Ecall, 2}, {trap, 99, 1, machine.Ecall, 2},
	} {
		m := machine.New(c.s)
		went, outcome := m.Run(c.most)
		if went != c.went || outcome != c.outcome || m.State().PC != c.pc {
			t.Errorf("P7.2: Run(%d): %d, %d, pc %d", c.most, went, outcome, m.State().PC)
		}
	}
}
