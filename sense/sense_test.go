package sense_test

import (
	"fmt"
	"math/rand"
	"reflect"
	"slices"
	"strings"
	"testing"

	"typecase/api"
	"typecase/asm"
	"typecase/eval"
	"typecase/exec"
	"typecase/machine"
	"typecase/mem"
	"typecase/relax"
	"typecase/sense"
)

const base = 0x1000

// image is that of a source whose lines are parted by semicolons.
func image(t *testing.T, src string) asm.Image {
	t.Helper()
	m, errs := asm.Assemble([]byte(strings.ReplaceAll(src, ";", "\n")), base)
	if len(errs) > 0 {
		t.Fatalf("%q: %v", src, errs)
	}
	return m
}

// state is one at an address, whose registers have ten times their numbers, and 1.
func state(pc uint32) api.State {
	s := api.State{PC: pc, Mem: []api.Cell{{At: 2000, Byte: 0x80}, {At: 1000, Byte: 0x99}, {At: 1001, Byte: 1}, {At: 1001, Byte: 0xFE}}}
	for k := range s.Regs {
		s.Regs[k] = uint32(10*k + 1)
	}
	return s
}

func TestStep(t *testing.T) {
	for _, c := range []struct {
		name, src string
		at        uint32 // how many bytes ahead of the item
		change    func(s *api.State)
		steps     int
		spoilt    int
		outcome   machine.Outcome
	}{
		{"a short", "c.li a0, 5", 0, func(s *api.State) { s.Regs[10] = 5; s.PC += 2 }, 1, 0, machine.Went},
		{"four bytes", ".option norvc; addi a0, a1, -1", 0, func(s *api.State) { s.Regs[10] = 110; s.PC += 4 }, 1, 0, machine.Went},
		{"into register 0", "addi zero, a1, 3", 0, func(s *api.State) { s.PC += 4 }, 1, 0, machine.Went},
		{"of register 0", "add a0, zero, a1", 0, func(s *api.State) { s.Regs[10] = 111; s.PC += 2 }, 1, 0, machine.Went},
		{"jalr", "jalr ra, 3(a1)", 0, func(s *api.State) { s.Regs[1] = base + 4; s.PC = 114 }, 1, 0, machine.Went},
		{"c.jalr", "jalr a1", 0, func(s *api.State) { s.Regs[1] = base + 2; s.PC = 110 }, 1, 0, machine.Went},
		{"lh", "lh a0, 889(a1)", 0, func(s *api.State) { s.Regs[10] = 0xFFFFFE99; s.PC += 4 }, 1, 0, machine.Went},
		{"lhu", "lhu a0, 889(a1)", 0, func(s *api.State) { s.Regs[10] = 0xFE99; s.PC += 4 }, 1, 0, machine.Went},
		{"lb", "lb a0, 1889(a1)", 0, func(s *api.State) { s.Regs[10] = 0xFFFFFF80; s.PC += 4 }, 1, 0, machine.Went},
		{"lw", "lw zero, 889(a1)", 0, func(s *api.State) { s.PC += 4 }, 1, 0, machine.Went},
		{"sw", "sw a0, 889(a1)", 0, func(s *api.State) { s.Mem = []api.Cell{{At: 1000, Byte: 101}, {At: 2000, Byte: 0x80}}; s.PC += 4 }, 1, 0, machine.Went},
		{"sb", "sb a0, 889(a1)", 0, func(s *api.State) { s.Mem[0].Byte = 101; s.PC += 4 }, 1, 0, machine.Went},
		{"fence", "fence", 0, func(s *api.State) { s.PC += 4 }, 1, 0, machine.Went},
		{"ecall", "nop; ecall", 2, func(s *api.State) {}, 0, 0, machine.Ecall}, {"ebreak", "ebreak", 0, func(s *api.State) {}, 0, 0, machine.Ebreak}, {"a wide ebreak", ".option norvc; ebreak", 0, func(s *api.State) {}, 0, 0, machine.Ebreak},
		{"li's second", "li a0, 0x12345678", 4, func(s *api.State) { s.Regs[10] = 101 + 0x678; s.PC += 4 }, 1, 0, machine.Went},
		{"late", "x: y: addi a0, a1, y-x+7", 0, func(s *api.State) { s.Regs[10] = 118; s.PC += 4 }, 1, 0, machine.Went},
		{"late upper", "x: lui a0, %hi(x)", 0, func(s *api.State) { s.Regs[10] = 0x1000; s.PC += 4 }, 1, 0, machine.Went},
		{"late pcrel", "nop; auipc a0, %hi(%pcrel(x)); .zero 4000; x:", 2, func(s *api.State) { s.Regs[10] = base + 2 + 0x1000; s.PC += 4 }, 1, 0, machine.Went},
		{"late load", "x: lw a0, y-x(a1); .zero 885; y:", 0, func(s *api.State) { s.Regs[10] = 0xFE99; s.PC += 4 }, 1, 0, machine.Went},
		{"late target", "nop; j .+8", 2, func(s *api.State) { s.PC += 8 }, 1, 0, machine.Went},
		{"late branch", "nop; beq a0, a0, .-2", 2, func(s *api.State) { s.PC -= 2 }, 1, 0, machine.Went}, {"late branch that doesn't go", "nop; bne a0, a0, .-2", 2, func(s *api.State) { s.PC += 4 }, 1, 0, machine.Went},
		{"c.j", "c.j x; x:", 0, func(s *api.State) { s.PC += 2 }, 1, 0, machine.Went},
		{"a branch of 2 that goes", "bnez a0, x; .zero 100; x:", 0, func(s *api.State) { s.PC += 102 }, 1, 0, machine.Went}, {"a branch of 2 that doesn't", "beqz a0, x; .zero 100; x:", 0, func(s *api.State) { s.PC += 2 }, 1, 0, machine.Went},
		{"a branch of 4 that goes", "blt a0, a1, x; .zero 100; x:", 0, func(s *api.State) { s.PC += 104 }, 1, 0, machine.Went}, {"a branch of 4 that doesn't", "bge a0, a1, x; .zero 100; x:", 0, func(s *api.State) { s.PC += 4 }, 1, 0, machine.Went},
		{"a branch of 8 that goes", "bgtu a1, a0, x; .zero 10000; x:", 0, func(s *api.State) { s.PC += 10008 }, 2, 0, machine.Went}, {"a branch of 8 that doesn't", "bleu a1, a0, x; .zero 10000; x:", 0, func(s *api.State) { s.PC += 8 }, 1, 0, machine.Went},
		{"a jump", "x: nop; j x", 2, func(s *api.State) { s.PC -= 2 }, 1, 0, machine.Went}, {"jal of 2", "jal x; x:", 0, func(s *api.State) { s.Regs[1] = base + 2; s.PC += 2 }, 1, 0, machine.Went}, {"jal of 4", "jal x; .zero 5000; x:", 0, func(s *api.State) { s.Regs[1] = base + 4; s.PC += 5004 }, 1, 0, machine.Went},
		{"itself", "x: j x", 0, func(s *api.State) {}, 1, 0, machine.Went},
		{"a call of 2", "call x; x:", 0, func(s *api.State) { s.Regs[1] = base + 2; s.PC += 2 }, 1, 0, machine.Went}, {"a call of 8", ".option norelax; call x; x:", 0, func(s *api.State) { s.Regs[1] = base + 8; s.PC += 8 }, 2, 0, machine.Went},
		{"a tail of 4", ".option norvc; tail x; x:", 0, func(s *api.State) { s.PC += 4 }, 1, 0, machine.Went}, {"a tail of 8", ".option norelax; tail x; x:", 0, func(s *api.State) { s.PC += 8 }, 2, 6, machine.Went},
		{"a call of a symbol", ".equ f, 0x12345678; call f", 0, func(s *api.State) { s.Regs[1] = base + 8; s.PC = 0x12345678 }, 2, 0, machine.Went},
		{"la", "la a0, x+4; x:", 0, func(s *api.State) { s.Regs[10] = base + 12; s.PC += 8 }, 2, 0, machine.Went}, {"la into register 0", "la zero, .", 0, func(s *api.State) { s.PC += 8 }, 2, 0, machine.Went}, {"la of a number", ".equ n, 77; la sp, n", 0, func(s *api.State) { s.Regs[2] = 77; s.PC += 8 }, 2, 0, machine.Went},
	} {
		m := image(t, c.src)
		s := state(base + c.at)
		before := state(base + c.at)
		want := state(base + c.at)
		want.Regs[0] = 0
		want.Mem = mem.New(want.Mem...).Cells()
		c.change(&want)
		want.Mem = mem.New(want.Mem...).Cells()
		got, ok := sense.Step(m, s)
		if !ok || got.Steps != c.steps || got.Spoilt != c.spoilt || got.Outcome != c.outcome || !same(got.State, want) {
			t.Errorf("P25.1: %s: %v, %v, want %v", c.name, got, ok, want)
		}
		if !reflect.DeepEqual(s, before) || !reflect.DeepEqual(m, image(t, c.src)) {
			t.Errorf("%s: what was handed in is changed", c.name)
		}
	}
}

func same(a, b api.State) bool {
	return a.Regs == b.Regs && a.PC == b.PC && slices.Equal(a.Mem, b.Mem)
}

func TestNoStep(t *testing.T) {
	m := image(t, "nop; .word 0x00500093; x: .zero 4; .align 4; y: nop")
	for _, at := range []uint32{0, base - 2, base + 1, base + 2, base + 4, base + 6, base + 12, base + 18, 1<<32 - 2} {
		if e, ok := sense.Step(m, state(at)); ok || !reflect.DeepEqual(e, sense.Effect{}) {
			t.Errorf("P25.1: at %#x: %v, %v", at, e, ok)
		}
	}
	if _, ok := sense.Step(m, state(base+16)); !ok {
		t.Error("P25.1: at y")
	}
	if e, ok := sense.Step(asm.Image{}, state(0)); ok || !reflect.DeepEqual(e, sense.Effect{}) {
		t.Errorf("P25.1: an empty image: %v", e)
	}
}

// TestMadeUp: images that Assemble didn't give don't make a call panic.
func TestMadeUp(t *testing.T) {
	for kind := -1; kind < 14; kind++ {
		for _, n := range []int{-1, 0, 31, 32, 1 << 40} {
			for op := -1; op < 50; op++ {
				i := api.Item{Kind: kind, Name: "x", Ins: api.Ins{Op: op, Rd: n, Rs1: n, Rs2: n}, Num: uint32(n)}
				for _, l := range []relax.Layout{{}, {At: []uint32{0}}, {At: []uint32{0, 4}}, {At: []uint32{0}, Sizes: []int{8}}, {At: []uint32{0, 4}, Sizes: []int{8}}} {
					sense.Step(asm.Image{Items: []api.Item{i}, Layout: l}, api.State{})
					sense.Step(asm.Image{Items: []api.Item{i}, Layout: l, Syms: []eval.Symbol{{Name: "x"}}}, api.State{})
				}
			}
		}
	}
}

func TestLaid(t *testing.T) {
	m := image(t, ".byte 1, 0, 3")
	s := api.State{PC: 7, Mem: []api.Cell{{At: base + 5, Byte: 9}, {At: base + 1, Byte: 8}, {At: base, Byte: 7}, {At: 3, Byte: 5}, {At: 3, Byte: 6}}}
	s.Regs[0], s.Regs[31] = 44, 55
	got := sense.Laid(m, s)
	want := []api.Cell{{At: 3, Byte: 6}, {At: base, Byte: 1}, {At: base + 2, Byte: 3}, {At: base + 5, Byte: 9}}
	if got.Regs != s.Regs || got.PC != 7 || !slices.Equal(got.Mem, want) {
		t.Errorf("P25.2: %v", got)
	}
	if s.Mem[1].Byte != 8 {
		t.Error("P25.2: what was handed in is changed")
	}
}

// line is one of a random program: of all that an instruction may be.
func line(r *rand.Rand, labels int) string {
	reg := func() string { return fmt.Sprintf("x%d", r.Intn(16)) }
	few := func() string { return fmt.Sprintf("a%d", r.Intn(6)) }
	to := func() string { return fmt.Sprintf("l%d", r.Intn(labels)) }
	one := func(names string) string { l := strings.Fields(names); return l[r.Intn(len(l))] }
	switch r.Intn(15) {
	case 0:
		return fmt.Sprintf("%s %s, %s, %s", one("add sub sll slt sltu xor srl sra or and mul mulh mulhsu mulhu div divu rem remu"), reg(), reg(), reg())
	case 1:
		return fmt.Sprintf("%s %s, %s, %d", one("addi slti sltiu xori ori andi"), reg(), reg(), r.Intn(4096)-2048)
	case 2:
		return fmt.Sprintf("%s %s, %s, %d", one("slli srli srai"), reg(), reg(), r.Intn(32))
	case 3:
		return fmt.Sprintf("%s %s, %d(s1)", one("lb lh lw lbu lhu"), reg(), r.Intn(64))
	case 4:
		return fmt.Sprintf("%s %s, %d(s1)", one("sb sh sw"), reg(), r.Intn(64))
	case 5:
		return fmt.Sprintf("%s %s, %s, %s", one("beq bne blt bge bltu bgeu bgt ble bgtu bleu"), reg(), reg(), to())
	case 6:
		return fmt.Sprintf("%s %s, %s", one("beqz bnez bgez bltz blez bgtz"), few(), to())
	case 7:
		far := fmt.Sprintf("%s %s", one("call tail"), to())
		if r.Intn(2) == 0 {
			return ".option norelax; " + far + "; .option relax"
		}
		return far
	case 13:
		return fmt.Sprintf("%s %s", one("j jal"), to())
	case 8:
		return fmt.Sprintf("li %s, %d", reg(), r.Uint32()>>r.Intn(32))
	case 9:
		return fmt.Sprintf("la %s, %s+%d", reg(), to(), r.Intn(5000))
	case 10:
		return fmt.Sprintf("la t0, %s; jalr %s, (t0)", to(), one("ra a0 zero"))
	case 11:
		return fmt.Sprintf("%s %s, %s", one("mv not neg seqz snez"), few(), few())
	case 12:
		return fmt.Sprintf("lui %s, %%hi(%s); addi %s, a0, %%lo(%s)", few(), to(), few(), to())
	}
	others := strings.Split("nop|fence|ecall|ebreak|c.nop|.option rvc|.option norvc|.option relax|.option norelax|j .+4|.zero 2000|.zero 300|.align 3|c.addi a0, -1", "|")
	return others[r.Intn(len(others))]
}

func program(r *rand.Rand) string {
	count := 3 + r.Intn(40)
	var b strings.Builder
	for k := range count {
		fmt.Fprintf(&b, "l%d: %s\n", k, strings.ReplaceAll(line(r, count), "; ", "\n"))
	}
	return b.String()
}

// checkStep holds that the machine does in so many steps what the item's step says, but for the register that is spoilt.
func checkStep(t *testing.T, src string, m asm.Image, s api.State) (api.State, bool) {
	t.Helper()
	e, ok := sense.Step(m, s)
	if !ok || storesIntoImage(m, s) {
		return s, false
	}
	real := machine.New(s)
	for range e.Steps {
		if o := real.Step(); o != machine.Went {
			t.Fatalf("P25.3: at %#x of\n%s: outcome %d", s.PC, src, o)
		}
	}
	got, want := real.State(), e.State
	if e.Spoilt != 0 {
		want.Regs[e.Spoilt] = got.Regs[e.Spoilt]
	}
	if !same(got, want) {
		t.Fatalf("P25.3: at %#x of\n%s: %v, want %v", s.PC, src, got, want)
	}
	if e.Outcome != machine.Went {
		if e.Steps != 0 || real.Step() != e.Outcome || !same(real.State(), e.State) {
			t.Fatalf("P2: at %#x of\n%s: no trap %d", s.PC, src, e.Outcome)
		}
		want.PC += 4
		return want, false
	}
	return want, true
}

// storesIntoImage: does the instruction at the pc store where the image is?
func storesIntoImage(m asm.Image, s api.State) bool {
	i, _, _ := machine.New(s).Fetch()
	s.Regs[0] = 0
	at, bytes, store, _ := exec.Access(i, s.Regs[i.Rs1])
	for k := range bytes {
		if store && at+uint32(k)-m.Base < uint32(len(m.Bytes)) {
			return true
		}
	}
	return false
}

// TestYardstick: from the address of any instruction on, the machine does item by item what the items mean.
func TestYardstick(t *testing.T) {
	r := rand.New(rand.NewSource(25))
	steps, spoilt := 0, 0
	for range 150 {
		src := program(r)
		m, errs := asm.Assemble([]byte(src), r.Uint32()&0xFFFFF&^3)
		if len(errs) > 0 {
			continue
		}
		for k, i := range m.Items {
			if i.Kind < api.Fixed || i.Kind > api.Addr {
				continue
			}
			s := api.State{PC: m.Layout.At[k], Mem: []api.Cell{{At: 0x2000000, Byte: 0x85}}}
			for n := range s.Regs {
				s.Regs[n] = r.Uint32() >> r.Intn(32)
			}
			s.Regs[9] = 0x2000000
			s = sense.Laid(m, s)
			for range 12 {
				e, _ := sense.Step(m, s)
				if e.Spoilt != 0 {
					spoilt++
				}
				next, goesOn := checkStep(t, src, m, s)
				if s = next; !goesOn {
					break
				}
				steps++
			}
		}
	}
	if steps < 10000 || spoilt < 20 {
		t.Errorf("only %d steps were tried, %d of them spoilt", steps, spoilt)
	}
}
