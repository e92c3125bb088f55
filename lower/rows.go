package lower

import (
	"strings"

	"typecase/api"
	"typecase/ins"
	"typecase/letters"
)

// making is what a statement makes.
type making int

const (
	instruction making = iota
	short
	number
	address
	far
	data
	text
	zeros
	align
	org
	option
)

// row is a statement that there is: the letters of its operands (if there may be more, the last one's
// as often as there are operands), what it makes, and what of that stands fast.
type row struct {
	name, letters string
	more          bool
	makes         making
	ins           api.Ins
	size          int    // of data, how many bytes
	behind        string // of a text, what stands behind it
	most          uint32 // of a number told early, the greatest it may be
}

// find: the statement of a name, with so many operands. BadName, BadArgs.
func find(name string, count int) (row, error) {
	var err error = api.BadName
	for _, r := range named(name) {
		if r.takes(count) {
			return r, nil
		}
		err = api.BadArgs
	}
	return row{}, err
}

func (r row) takes(count int) bool {
	if r.more {
		return count > 0
	}
	return count == len(r.letters)
}

// letter: that of the operand of a place.
func (r row) letter(k int) byte { return r.letters[min(k, len(r.letters)-1)] }

// named: the statements of a name; jal and jalr have two.
func named(name string) []row {
	table := aliases()
	switch {
	case strings.HasPrefix(name, "c."):
		table = shorts()
	case strings.HasPrefix(name, "."):
		table = directives()
	}
	var rows []row
	if op := ins.Op(name); op != 0 {
		rows = append(rows, row{name: name, letters: letters.OfForm(ins.FormOf(op)), ins: api.Ins{Op: op}})
	}
	for _, r := range table {
		if r.name == name {
			rows = append(rows, r)
		}
	}
	return rows
}

// aliases are instructions under other names, and what makes several.
func aliases() []row {
	return []row{
		{name: "jal", letters: "j", ins: api.Ins{Op: api.Jal, Rd: 1}},
		{name: "jalr", letters: "s", ins: api.Ins{Op: api.Jalr, Rd: 1}},
		{name: "nop", ins: api.Ins{Op: api.Addi}},
		{name: "mv", letters: "dt", ins: api.Ins{Op: api.Add}},
		{name: "not", letters: "ds", ins: api.Ins{Op: api.Xori, Imm: -1}},
		{name: "neg", letters: "dt", ins: api.Ins{Op: api.Sub}},
		{name: "seqz", letters: "ds", ins: api.Ins{Op: api.Sltiu, Imm: 1}},
		{name: "snez", letters: "dt", ins: api.Ins{Op: api.Sltu}},
		{name: "j", letters: "j", ins: api.Ins{Op: api.Jal}},
		{name: "jr", letters: "s", ins: api.Ins{Op: api.Jalr}},
		{name: "ret", ins: api.Ins{Op: api.Jalr, Rs1: 1}},
		{name: "beqz", letters: "sj", ins: api.Ins{Op: api.Beq}},
		{name: "bnez", letters: "sj", ins: api.Ins{Op: api.Bne}},
		{name: "bgez", letters: "sj", ins: api.Ins{Op: api.Bge}},
		{name: "bltz", letters: "sj", ins: api.Ins{Op: api.Blt}},
		{name: "blez", letters: "tj", ins: api.Ins{Op: api.Bge}},
		{name: "bgtz", letters: "tj", ins: api.Ins{Op: api.Blt}},
		{name: "bgt", letters: "tsj", ins: api.Ins{Op: api.Blt}},
		{name: "ble", letters: "tsj", ins: api.Ins{Op: api.Bge}},
		{name: "bgtu", letters: "tsj", ins: api.Ins{Op: api.Bltu}},
		{name: "bleu", letters: "tsj", ins: api.Ins{Op: api.Bgeu}},
		{name: "li", letters: "dn", makes: number, most: 1<<32 - 1},
		{name: "la", letters: "dw", makes: address},
		{name: "call", letters: "o", makes: far, ins: api.Ins{Rd: 1, Rs1: 1}},
		{name: "tail", letters: "o", makes: far, ins: api.Ins{Rs1: 6}},
	}
}

// shorts are the instructions of two bytes.
func shorts() []row {
	rows := []row{
		{name: "c.addi4spn", ins: api.Ins{Op: api.Addi}},
		{name: "c.lw", ins: api.Ins{Op: api.Lw}},
		{name: "c.sw", ins: api.Ins{Op: api.Sw}},
		{name: "c.nop", ins: api.Ins{Op: api.Addi}},
		{name: "c.addi", ins: api.Ins{Op: api.Addi}},
		{name: "c.jal", ins: api.Ins{Op: api.Jal, Rd: 1}},
		{name: "c.li", ins: api.Ins{Op: api.Addi}},
		{name: "c.addi16sp", ins: api.Ins{Op: api.Addi}},
		{name: "c.lui", ins: api.Ins{Op: api.Lui}},
		{name: "c.srli", ins: api.Ins{Op: api.Srli}},
		{name: "c.srai", ins: api.Ins{Op: api.Srai}},
		{name: "c.andi", ins: api.Ins{Op: api.Andi}},
		{name: "c.sub", ins: api.Ins{Op: api.Sub}},
		{name: "c.xor", ins: api.Ins{Op: api.Xor}},
		{name: "c.or", ins: api.Ins{Op: api.Or}},
		{name: "c.and", ins: api.Ins{Op: api.And}},
		{name: "c.j", ins: api.Ins{Op: api.Jal}},
		{name: "c.beqz", ins: api.Ins{Op: api.Beq}},
		{name: "c.bnez", ins: api.Ins{Op: api.Bne}},
		{name: "c.slli", ins: api.Ins{Op: api.Slli}},
		{name: "c.lwsp", ins: api.Ins{Op: api.Lw}},
		{name: "c.jr", ins: api.Ins{Op: api.Jalr}},
		{name: "c.mv", ins: api.Ins{Op: api.Add}},
		{name: "c.ebreak", ins: api.Ins{Op: api.Ebreak}},
		{name: "c.jalr", ins: api.Ins{Op: api.Jalr, Rd: 1}},
		{name: "c.add", ins: api.Ins{Op: api.Add}},
		{name: "c.swsp", ins: api.Ins{Op: api.Sw}},
	}
	for k, r := range rows {
		rows[k].letters, rows[k].makes = letters.OfShort(r.name), short
	}
	return rows
}

func directives() []row {
	return []row{
		{name: ".byte", letters: "w", more: true, makes: data, size: 1},
		{name: ".half", letters: "w", more: true, makes: data, size: 2},
		{name: ".2byte", letters: "w", more: true, makes: data, size: 2},
		{name: ".word", letters: "w", more: true, makes: data, size: 4},
		{name: ".4byte", letters: "w", more: true, makes: data, size: 4},
		{name: ".ascii", letters: "q", more: true, makes: text},
		{name: ".asciz", letters: "q", more: true, makes: text, behind: "\x00"},
		{name: ".zero", letters: "n", makes: zeros, most: api.MaxImage},
		{name: ".align", letters: "n", makes: align, most: 12},
		{name: ".org", letters: "n", makes: org, most: 1<<32 - 1},
		{name: ".option", letters: "o", makes: option},
	}
}
