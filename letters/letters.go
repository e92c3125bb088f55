// Package letters tells by letters which operands instructions have: what layer 17 reads, layer 23 writes.
package letters

import "typecase/ins"

// OfForm: those of the operations of a form.
func OfForm(f ins.Form) string {
	switch f {
	case ins.Upper:
		return "du"
	case ins.Jump:
		return "dj"
	case ins.Branch:
		return "stj"
	case ins.Load:
		return "dm"
	case ins.Store:
		return "tm"
	case ins.Number, ins.Shift:
		return "dsi"
	case ins.Register:
		return "dst"
	}
	return ""
}

// OfShort: those of the short of a name.
func OfShort(name string) string {
	switch name {
	case "c.addi4spn":
		return "dsi"
	case "c.lw", "c.lwsp":
		return "dm"
	case "c.sw", "c.swsp":
		return "tm"
	case "c.addi", "c.addi16sp", "c.srli", "c.srai", "c.andi", "c.slli":
		return "xi"
	case "c.li":
		return "di"
	case "c.lui":
		return "du"
	case "c.sub", "c.xor", "c.or", "c.and", "c.add":
		return "xt"
	case "c.mv":
		return "dt"
	case "c.jal", "c.j":
		return "j"
	case "c.beqz", "c.bnez":
		return "sj"
	case "c.jr", "c.jalr":
		return "s"
	}
	return ""
}
