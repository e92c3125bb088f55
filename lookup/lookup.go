// Package lookup finds symbols by their names: layers hand on just those that are asked for,
// as to go through all of them for each expression would be slow.
package lookup

import (
	"typecase/api"
	"typecase/eval"
)

// Table is symbols by their names.
type Table map[string]eval.Symbol

// Of: the symbols of some lists, the first of each name.
func Of(lists ...[]eval.Symbol) Table {
	t := Table{}
	for _, l := range lists {
		for _, s := range l {
			t.Add(s)
		}
	}
	return t
}

// Add adds a symbol, and tells whether there was none of its name; else nothing is added.
func (t Table) Add(s eval.Symbol) bool {
	if t.Has(s.Name) {
		return false
	}
	t[s.Name] = s
	return true
}

// Has: is there a symbol of that name?
func (t Table) Has(name string) bool {
	_, ok := t[name]
	return ok
}

// Named: the symbols that nodes name, one for each node that names one.
func (t Table) Named(l []api.Node) []eval.Symbol {
	var syms []eval.Symbol
	for _, n := range l {
		if s, ok := t[n.Name]; ok && n.Kind == api.Sym {
			syms = append(syms, s)
		}
	}
	return syms
}
