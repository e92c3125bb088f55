package asm_test

import (
	"encoding/hex"
	"errors"
	"fmt"
	"math"
	"math/rand"
	"reflect"
	"slices"
	"strings"
	"testing"

	"typecase/api"
	"typecase/asm"
	"typecase/emit"
	"typecase/eval"
	"typecase/expr"
	"typecase/relax"
)

// source is a text whose lines are parted by semicolons.
func source(s string) []byte { return []byte(strings.ReplaceAll(s, ";", "\n")) }

// assembled is the image's bytes in base sixteen.
func assembled(t *testing.T, s string, base uint32) string {
	t.Helper()
	m, errs := asm.Assemble(source(s), base)
	if len(errs) > 0 {
		t.Errorf("%.200q: %v", s, errs)
	}
	return strings.ToUpper(hex.EncodeToString(m.Bytes))
}

// toldErrors is errors as a text, each with its place and its code.
func toldErrors(errs []error) string {
	var all []string
	for _, err := range errs {
		var f *api.Fault
		var c api.Code
		if !errors.As(err, &f) || !errors.As(err, &c) {
			return "an error without a place, or a code"
		}
		all = append(all, fmt.Sprintf("%d:%d:%d", f.Line, f.Col, int(c)))
	}
	return strings.Join(all, " ")
}

// TestExamples are the document's ten, but for what is swept.
func TestExamples(t *testing.T) {
	for _, c := range []struct {
		src  string
		base uint32
		want string
	}{
		{"nop", 0, "0100"}, {".option norvc;nop", 0, "13000000"}, {".option norelax;nop", 0, "13000000"}, {"x: j x", 64, "01A0"},
		{"li a0, 0x12345678", 0, "37553412" + "13058567"},
		{".macro m; @l: j @l; .endm; m; m", 0, "01A001A0"}, {".rept 3; nop; .endr", 0, "010001000100"},
		{".byte 1; .align 2; x: .word x", 64, "01000000" + "44000000"}, {"la a0, x; x:", 0, "17050000" + "13058500"},
		{`.asciz "hi"; .half -1, 65535; .org 9; .byte 'a'`, 0, "686900" + "FFFFFFFF" + "0000" + "61"}, {"", 4, ""}, {"x:", 4, ""},
		{"li a0, n; .equ n, 5", 0, "1545"},
	} {
		if got := assembled(t, c.src, c.base); got != c.want {
			t.Errorf("P22.2: %q: %s, want %s", c.src, got, c.want)
		}
	}
	for bytes, want := range map[int]int{252: 2, 254: 4} {
		m, errs := asm.Assemble(fmt.Appendf(nil, "beqz a0, x\n.zero %d\nx:", bytes), 0)
		if len(errs) > 0 || m.Layout.Sizes[0] != want {
			t.Errorf("P22.2: %d bytes: %v, %v", bytes, m.Layout.Sizes, errs)
		}
	}
	for src, want := range map[string]string{".byte 1; nop": "2:2:16", "j x": "1:1:11"} {
		if _, errs := asm.Assemble(source(src), 0); toldErrors(errs) != want {
			t.Errorf("P22.2: %q: %s", src, toldErrors(errs))
		}
	}
}

func TestFront(t *testing.T) {
	p, errs := asm.Front(source(".equ n, 5; x: .option norvc; .rept 2; addi a0, a0, n; .endr; .option rvc; addi a0, a0, k; .equ k, 6"), 99)
	if len(errs) > 0 || len(p.Items) != 4 || !slices.Equal(p.Syms, []eval.Symbol{{Name: "n", Value: 5}, {Name: "k", Value: 6}}) {
		t.Fatalf("P22.1: %v, %v", p, errs)
	}
	if p.Items[0].Kind != api.Here || p.Items[1].Short != "" || p.Items[2].Short != "" || p.Items[3].Short != "c.addi" {
		t.Errorf("P22.1: %v", p.Items)
	}
	for _, fuel := range []int{1, 0, -7} {
		p, errs := asm.Front(source("nop;nop"), fuel)
		if len(errs) != 1 || !errors.Is(errs[0], api.Fuel) || !reflect.DeepEqual(p, asm.Program{}) {
			t.Errorf("P22.1: with %d fuel: %v, %v", fuel, p, errs)
		}
	}
	if _, errs := asm.Front(source("nop;nop"), 2); len(errs) > 0 {
		t.Errorf("P22.1: %v", errs)
	}
}

func TestFrontErrors(t *testing.T) {
	for src, want := range map[string]string{
		"nop; ?; $": "2:2:2", "foo; .endif": "2:2:15", "foo; 1a": "2:2:3", "x; nop; y 5; a0:": "1:1:8 3:2:8 4:2:8",
		"li a0; li a0, ; nop": "1:1:9 2:7:5", "nop 1; .option bad; lui a0, -1; .byte": "1:1:9 2:10:8 3:10:12 4:2:9", ".equ x, y; foo": "1:9:11",
		".option norvc; nop 5; .option 5; .option foo; li a0, x": "2:2:9 3:10:5 4:10:8 5:9:11",
		"a; .if 0; b; .endif; c":                                 "1:1:8 5:2:8",
	} {
		p, errs := asm.Front(source(src), api.MaxFuel)
		if toldErrors(errs) != want || !reflect.DeepEqual(p, asm.Program{}) {
			t.Errorf("P22.1: %q: %s, want %s", src, toldErrors(errs), want)
		}
		m, errs := asm.Assemble(source(src), 8)
		if toldErrors(errs) != want || !reflect.DeepEqual(m, asm.Image{}) {
			t.Errorf("P22.2: %q: %s, want %s", src, toldErrors(errs), want)
		}
	}
}

// TestOptionsStay: behind a line with an error the options are as they were.
func TestOptionsStay(t *testing.T) {
	_, errs := asm.Front(source(".option norvc; .option foo; c.li a0, 99; nop"), 99)
	if toldErrors(errs) != "2:10:8 3:2:12" {
		t.Errorf("P22.1: %s", toldErrors(errs))
	}
}

func TestMaxItems(t *testing.T) {
	src := func(lines int) []byte {
		return fmt.Appendf(nil, ".rept 4000\nnop\n.endr\n%s", strings.Repeat(" .byte 1, 2\n", lines))
	}
	p, errs := asm.Front(src(48), api.MaxFuel)
	if len(errs) > 0 || len(p.Items) != 4096 {
		t.Errorf("P22.1: %d items, %v", len(p.Items), errs)
	}
	p, errs = asm.Front(src(49), api.MaxFuel)
	if toldErrors(errs) != "52:2:12" || !reflect.DeepEqual(p, asm.Program{}) {
		t.Errorf("P22.1: %s", toldErrors(errs))
	}
	_, errs = asm.Front(append(src(48), "x: y: nop"...), api.MaxFuel)
	if toldErrors(errs) != "52:1:12" {
		t.Errorf("P22.1: %s", toldErrors(errs))
	}
	_, errs = asm.Front(append(src(47), ".byte 1\nx: y: nop"...), api.MaxFuel)
	if toldErrors(errs) != "52:4:12" {
		t.Errorf("P22.1: %s", toldErrors(errs))
	}
	// An error of a line is told instead, though it stands behind.
	_, errs = asm.Front(append(src(60), "foo"...), api.MaxFuel)
	if toldErrors(errs) != "64:1:8" {
		t.Errorf("P22.1: %s", toldErrors(errs))
	}
}

func TestAssembleErrors(t *testing.T) {
	for _, c := range []struct {
		src  string
		base uint32
		want string
	}{
		{"?", 1, "0:0:1"}, {"nop", 2, "0:0:1"}, {"nop", 1<<32 - 1, "0:0:1"}, {"?", 0, "1:1:2"},
		{"x:; x: j y", 0, "2:2:10"}, {".equ x, 1; x:", 0, "2:2:10"}, {"j y; .byte 256", 0, "1:1:11"}, {".zero 65536; .byte 1", 0, "2:2:12"}, {".byte 1; nop; .org 0", 0, "2:2:16"},
		{".byte 256, z; nop; .half x; .equ y, 1; la a0, x+x; addi a0, a0, w; .word 1/0; li a0, 5; w: x:", 0, "1:1:12 1:12:11 5:10:7 7:9:12"},
		{"nop", 1<<32 - 4, ""}, {"nop; .byte 1", 1<<32 - 4, ""}, {"nop; nop", 1<<32 - 4, "2:2:12"}, {"j .+1", 0, "1:1:12"}, {".option norelax; beqz a0, x; .zero 5000; x:", 0, "2:2:12"}, {"j x; .zero 3; x:", 0, "1:1:12"},
	} {
		m, errs := asm.Assemble(source(c.src), c.base)
		if toldErrors(errs) != c.want || c.want != "" && !reflect.DeepEqual(m, asm.Image{}) {
			t.Errorf("P22.2: %q from %#x: %s, want %s", c.src, c.base, toldErrors(errs), c.want)
		}
	}
}

func TestImage(t *testing.T) {
	src := source(".equ n, 3; a: j b; .zero 4000; .align 3; b: .word a, n")
	m, errs := asm.Assemble(src, 0x1000)
	p, _ := asm.Front(src, api.MaxFuel)
	l, err := relax.Relax(p.Items, p.Syms, 0x1000)
	b, _ := emit.All(p.Items, l, p.Syms)
	want := asm.Image{Base: 0x1000, Bytes: b, Labels: l.Labels, Syms: p.Syms, Items: p.Items, Layout: l}
	if len(errs) > 0 || err != nil || !reflect.DeepEqual(m, want) {
		t.Errorf("P22.2: %v, %v", m, errs)
	}
	m.Labels[0].Name = "changed"
	if m.Layout.Labels[0].Name != "a" {
		t.Error("two lists of one answer share memory")
	}
}

// checkImage holds what follows of each image: P1 and P22.3.
func checkImage(t *testing.T, src []byte, base uint32, m asm.Image) {
	t.Helper()
	if len(m.Bytes) > api.MaxImage || m.Base != base || len(m.Layout.At) != len(m.Items)+1 {
		t.Fatalf("P22.3: %q: %d bytes", src, len(m.Bytes))
	}
	leading := 0
	values := map[string]uint32{}
	for _, l := range m.Labels {
		if _, twice := values[l.Name]; twice || l.Value < base || l.Value > base+uint32(len(m.Bytes)) {
			t.Fatalf("P22.3: %q: label %v", src, l)
		}
		values[l.Name] = l.Value
	}
	for k, i := range m.Items {
		switch i.Kind {
		case api.Branch, api.Jump, api.Far:
			leading++
		case api.Align:
			if m.Layout.At[k+1]%i.Num != 0 {
				t.Fatalf("P22.3: %q: an Align ends at %#x", src, m.Layout.At[k+1])
			}
		case api.Here:
			if values[i.Name] != m.Layout.At[k] {
				t.Fatalf("P22.3: %q: label %s lies at %#x", src, i.Name, m.Layout.At[k])
			}
		}
	}
	if m.Layout.At[len(m.Items)]-base != uint32(len(m.Bytes)) || m.Layout.Passes > 2*leading+1 {
		t.Fatalf("P1: %q: %d bytes, %d passes", src, len(m.Bytes), m.Layout.Passes)
	}
}

// checkAny holds that a source has either errors, each at a place, or an image.
func checkAny(t *testing.T, src []byte, base uint32) bool {
	t.Helper()
	m, errs := asm.Assemble(src, base)
	for _, err := range errs {
		var f *api.Fault
		var c api.Code
		if !errors.As(err, &f) || !errors.As(err, &c) || c < api.Arg || c > api.Odd || f.Line < 1 || f.Col < 1 {
			t.Fatalf("P1: %q: %v", src, err)
		}
	}
	if len(errs) > 0 {
		if !reflect.DeepEqual(m, asm.Image{}) {
			t.Fatalf("P1: %q: an image beside errors", src)
		}
		return false
	}
	checkImage(t, src, base, m)
	return true
}

const words = "nop|ret|li a0, |li t6, 0x12345678|addi sp, sp, |lw a0, |sw a1, |4(sp)|(a0)|beqz a0, |bne a1, a2, |j |jal |call |tail |la a0, |x|y|z|@l|@m|x:|y:|@l:|" +
	".byte |.half |.word |.ascii \"ab\"|.zero |.align |.org |.option norvc|.option rvc|.option norelax|.option relax|.macro m|.macro n a, b=@d|.endm|m|n |n 1, 2|\\a|\\b|.rept |.endr|.if |.else|.endif|.equ |x, |y, |" +
	"1|2|7|254|2046|4096|65536|0xFFFFFFFF|'a'|.|+|-|~|*|/|<<|(|)|,|%hi(|%lo(|%pcrel(|c.addi a0, |c.j |c.beqz a0, |lui a0, |# |\"|\\"

func TestAnyWords(t *testing.T) {
	r := rand.New(rand.NewSource(22))
	choice := strings.Split(words, "|")
	good := 0
	for k := range 30000 {
		var src strings.Builder
		for range 1 + r.Intn(12) {
			src.WriteString(choice[r.Intn(len(choice))])
			if r.Intn(2) == 0 {
				src.WriteByte('\n')
			}
		}
		if checkAny(t, []byte(src.String()), uint32(k)<<18) {
			good++
		}
	}
	if good < 400 {
		t.Errorf("only %d had an image", good)
	}
}

func TestAnyBytes(t *testing.T) {
	const common = " \n\tabnopx0123456789.,:@\\\"'()+-"
	r := rand.New(rand.NewSource(23))
	for range 3000 {
		b := make([]byte, r.Intn(60))
		for k := range b {
			b[k] = byte(r.Intn(256))
			if r.Intn(4) > 0 {
				b[k] = common[r.Intn(len(common))]
			}
		}
		checkAny(t, b, r.Uint32()&^3)
	}
}

// program is a random one without errors: labels, and what leads to them.
func program(r *rand.Rand, lines int, gaps bool) string {
	var b strings.Builder
	labels := 1 + r.Intn(lines)
	for k := range lines {
		if k < labels {
			fmt.Fprintf(&b, "l%d: ", k)
		}
		to := r.Intn(labels)
		switch n := r.Intn(9); {
		case n == 0:
			fmt.Fprintf(&b, ".zero %d\n", []int{2, 100, 250, 254, 1000, 2000, 2044, 4000}[r.Intn(8)])
		case n == 1 && gaps:
			fmt.Fprintf(&b, ".align %d\n", 1+r.Intn(5))
		case n == 2:
			fmt.Fprintf(&b, ".option %s\n", []string{"rvc", "norvc", "relax", "rvc"}[r.Intn(4)])
		case n == 3:
			fmt.Fprintf(&b, "addi a%d, a%d, %d\n", r.Intn(8), r.Intn(8), r.Intn(40))
		default:
			fmt.Fprintf(&b, "%s l%d\n", []string{"j", "jal", "call", "tail", "beqz a0,", "bnez s0,", "blt a0, a1,", "bgtu t0, t1,", "la a1,"}[r.Intn(9)], to)
		}
	}
	return b.String()
}

func TestPrograms(t *testing.T) {
	r := rand.New(rand.NewSource(24))
	good := 0
	for range 1500 {
		if checkAny(t, []byte(program(r, 1+r.Intn(40), true)), r.Uint32()&0xFFFFFF&^3) {
			good++
		}
	}
	if good < 700 {
		t.Errorf("only %d had an image", good)
	}
}

// TestHygiene: whatever a macro's own label is called, it is no label of the caller, or of another expansion.
func TestHygiene(t *testing.T) {
	for _, own := range []string{"l", "a0", "m", "x_1", "_"} {
		for _, callers := range []string{"l", "a0", "m", "x_1", "_"} {
			src := fmt.Sprintf(".macro m a\n@%s: .word @%s, \\a\n.endm\n@%s: m @%s\nm @%s\n", own, own, callers, callers, callers)
			m, errs := asm.Assemble([]byte(src), 0x100)
			if len(errs) > 0 {
				t.Fatalf("P3: %q: %v", src, errs)
			}
			if got := hex.EncodeToString(m.Bytes); got != "00010000"+"00010000"+"08010000"+"00010000" {
				t.Errorf("P3: %q: %s", src, got)
			}
			names := map[string]bool{}
			for _, l := range m.Labels {
				names[l.Name] = true
			}
			if len(names) != 3 || !names[expr.Symbol(api.Token{Kind: api.Local, Text: callers, Scope: 1})] {
				t.Errorf("P3: %q: %v", src, m.Labels)
			}
		}
	}
}

// TestHandedIn: the source isn't changed, and isn't kept.
func TestHandedIn(t *testing.T) {
	src := source(`x: .ascii "abcd"; j x`)
	before := string(src)
	m, errs := asm.Assemble(src, 0)
	if len(errs) > 0 || string(src) != before {
		t.Fatal("the source is changed")
	}
	again, _ := asm.Assemble(src, 0)
	for k := range src {
		src[k] = 'z'
	}
	if !reflect.DeepEqual(m, again) {
		t.Error("the source is kept")
	}
}

func TestLongSource(t *testing.T) {
	long := strings.Repeat("#", api.MaxSource)
	if got := assembled(t, long, 0); got != "" {
		t.Error(got)
	}
	if _, errs := asm.Assemble([]byte(long+"#"), 0); toldErrors(errs) != "1:1:12" {
		t.Errorf("P22.1: %s", toldErrors(errs))
	}
	if _, errs := asm.Front(source(".rept 70000; .endr"), math.MaxInt); toldErrors(errs) != "1:1:13" {
		t.Errorf("P22.1: %s", toldErrors(errs))
	}
}
