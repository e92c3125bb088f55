package lookup_test

import (
	"slices"
	"testing"

	"typecase/api"
	"typecase/eval"
	"typecase/lookup"
)

func TestTable(t *testing.T) {
	x, y := eval.Symbol{Name: "x", Value: 1}, eval.Symbol{Name: "y", Value: 2, Class: eval.Place}
	table := lookup.Of([]eval.Symbol{x, {Name: "x", Value: 9}}, nil, []eval.Symbol{{Name: "x", Value: 8}, y})
	nodes := []api.Node{{Kind: api.Sym, Name: "y"}, {Kind: api.Num, Name: "x"}, {Kind: api.Sym, Name: "z"}, {Kind: api.Sym, Name: "x"}, {Kind: api.Plus}}
	if got := table.Named(nodes); !slices.Equal(got, []eval.Symbol{y, x}) {
		t.Errorf("%v", got)
	}
	if table.Has("z") || !table.Add(eval.Symbol{Name: "z", Value: 3}) || !table.Has("z") || table.Add(eval.Symbol{Name: "z", Value: 4}) {
		t.Error("a symbol is added once")
	}
	if got := table.Named(nodes[2:3]); len(got) != 1 || got[0].Value != 3 {
		t.Errorf("%v", got)
	}
}
