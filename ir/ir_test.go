package ir

import (
	"math"
	"slices"
	"strings"
	"testing"

	"jacquard/api"
)

// sum is the function of the chapter's example.
func sum() api.Func {
	return api.Func{Name: "f", Widths: []int{8, 8, 8}, Rets: []int{8}, Blocks: []api.Block{{Params: []int{0, 1},
		Insts: []api.Inst{{Op: api.OpAdd, Dest: 2, Args: []int{0, 1}}}, Term: api.Term{Kind: api.Return, Cond: -1, Rets: []int{2}}}}}
}

// loop is a function with a self loop, all kinds of accesses, and a block that is not reachable.
func loop() api.Func {
	return api.Func{Name: "g", Widths: []int{8, 1, 8, 1, 8, 8, 1, 8, 8, 1, 4, 16, 8},
		Arrays:  []api.Array{{Name: "a", Width: 8, Len: 4, Kind: api.Cyclic, Factor: 2}},
		Streams: []api.Stream{{Name: "i", Width: 8}, {Name: "o", Width: 8, Out: true}},
		Blocks: []api.Block{
			{Params: []int{0, 1}, Term: api.Term{Kind: api.Branch, Cond: 1, To: []api.Edge{{Block: 2, Args: []int{0, 1}}, {Block: 1}}}},
			{Term: api.Term{Kind: api.Return, Cond: -1}},
			{Params: []int{2, 3}, Pipeline: 1, Unroll: 2, Line: 7, Insts: []api.Inst{
				{Op: api.OpLoad, Dest: 4, Args: []int{2, 3}},
				{Op: api.OpRecv, Dest: 5, Args: []int{3}},
				{Op: api.OpStore, Dest: -1, Args: []int{4, 5, 3}},
				{Op: api.OpSend, Dest: -1, Args: []int{5, 3}, Mem: 1},
				{Op: api.OpULt, Dest: 6, Args: []int{4, 5}},
				{Op: api.OpSelect, Dest: 7, Args: []int{6, 4, 5}},
				{Op: api.OpConst, Dest: 8, Num: 255},
				{Op: api.OpTrunc, Dest: 10, Args: []int{8}},
				{Op: api.OpSExt, Dest: 11, Args: []int{8}},
			}, Term: api.Term{Kind: api.Branch, Cond: 6, To: []api.Edge{{Block: 1}, {Block: 2, Args: []int{7, 6}}}}},
			{Params: []int{12}, Term: api.Term{Kind: api.Jump, Cond: -1, To: []api.Edge{{Block: 2, Args: []int{12, 9}}}}, Insts: []api.Inst{{Op: api.OpConst, Dest: 9}}},
		}}
}

func TestValid(t *testing.T) {
	if !Valid(sum()) || !Valid(loop()) || Valid(api.Func{}) {
		t.Fatal("Valid")
	}
	changes := []func(f *api.Func){
		func(f *api.Func) { f.Name = "" }, func(f *api.Func) { f.Name = "1a" }, func(f *api.Func) { f.Name = strings.Repeat("a", 65) }, func(f *api.Func) { f.Arrays[0].Name = "o" }, func(f *api.Func) { f.Streams[0].Name = "a b" },
		func(f *api.Func) { f.Widths[0] = 0 }, func(f *api.Func) { f.Widths[12] = 65 }, func(f *api.Func) { f.Rets = []int{8} }, func(f *api.Func) { f.Blocks = nil }, func(f *api.Func) { f.Arrays[0].Len = 0 }, func(f *api.Func) { f.Arrays[0].Len = 4097 },
		func(f *api.Func) { f.Arrays[0].Factor = 5 }, func(f *api.Func) { f.Arrays[0].Kind = api.Whole }, func(f *api.Func) { f.Arrays[0].Kind = api.Complete }, func(f *api.Func) { f.Arrays[0].Kind = 4 },
		func(f *api.Func) { f.Blocks[2].Insts[0].Dest = 2 }, func(f *api.Func) { f.Blocks[2].Insts[0].Args[0] = 0 }, func(f *api.Func) { f.Blocks[2].Insts[0].Args[0] = 5 }, func(f *api.Func) { f.Blocks[2].Insts[0].Dest = 99 }, func(f *api.Func) { f.Blocks[2].Insts[2].Dest = 9 },
		func(f *api.Func) { f.Blocks[2].Insts[0].Mem = 1 }, func(f *api.Func) { f.Blocks[2].Insts[1].Mem = 1 }, func(f *api.Func) { f.Blocks[2].Insts[3].Mem = 0 }, func(f *api.Func) { f.Blocks[2].Insts[4].Mem = 1 }, func(f *api.Func) { f.Blocks[2].Insts[4].Num = 1 }, func(f *api.Func) { f.Blocks[2].Insts[6].Num = 256 },
		func(f *api.Func) { f.Blocks[2].Insts[4].Op = 0 }, func(f *api.Func) { f.Blocks[2].Insts[4].Op = api.OpAdd }, func(f *api.Func) { f.Blocks[2].Insts[4].Args = []int{4} }, func(f *api.Func) { f.Blocks[2].Insts[7].Op = api.OpZExt }, func(f *api.Func) { f.Blocks[2].Insts[8].Op = api.OpTrunc },
		func(f *api.Func) { f.Blocks[2].Insts[5].Args[0] = 4 }, func(f *api.Func) { f.Blocks[2].Term.Cond = 4 }, func(f *api.Func) { f.Blocks[2].Term.Cond = -1 }, func(f *api.Func) { f.Blocks[2].Term.To[1].Args = nil }, func(f *api.Func) { f.Blocks[2].Term.To[1].Args[0] = 6 }, func(f *api.Func) { f.Blocks[2].Term.To[0].Block = 0 },
		func(f *api.Func) { f.Blocks[2].Term.To[0].Block = 9 }, func(f *api.Func) { f.Blocks[2].Term.Rets = []int{4} }, func(f *api.Func) { f.Blocks[1].Term.Cond = 0 }, func(f *api.Func) { f.Blocks[1].Term.Kind = 0 }, func(f *api.Func) { f.Blocks[3].Term.To = nil }, func(f *api.Func) { f.Blocks[2].Pipeline = 257 },
		func(f *api.Func) { f.Blocks[2].Unroll = 65 }, func(f *api.Func) { f.Blocks[2].Line = math.MaxInt32 + 1 }, func(f *api.Func) { f.Blocks[2].Line = -1 }, func(f *api.Func) { f.Blocks[2].Params[0] = -1 }, func(f *api.Func) { f.Blocks[2].Insts[0].Args[0] = -1 }, func(f *api.Func) { f.Widths = make([]int, api.MaxValues+1) },
	}
	for i, change := range changes {
		f := loop()
		change(&f)
		if Valid(f) {
			t.Error("change", i)
		}
		Renumber(f)
		Preds(f)
		Reachable(f)
		Def(f, 3)
	}
}

func TestCopies(t *testing.T) {
	f := loop()
	g := Clone(f)
	if !Same(f, g) {
		t.Fatal("Clone")
	}
	g.Blocks[2].Insts[0].Args[0] = 9
	g.Blocks[2].Term.To[1].Args[0] = 9
	g.Blocks[2].Params[0] = 9
	g.Arrays[0].Len = 9
	if !Same(f, loop()) || Same(f, g) {
		t.Error("shared memory")
	}
	h := loop()
	h.Blocks[1].Params = []int{}
	if !Same(h, f) {
		t.Error("empty lists")
	}
}

func TestGraph(t *testing.T) {
	f := loop()
	if !slices.Equal(Succs(f, 2), []int{1, 2}) || Succs(f, 9) != nil || Succs(f, -1) != nil {
		t.Error("Succs")
	}
	if p := Preds(f); !slices.Equal(p[2], []int{0, 2, 3}) || !slices.Equal(p[1], []int{0, 2}) || len(p[0]) != 0 {
		t.Error(p)
	}
	if !slices.Equal(Reachable(f), []bool{true, true, true, false}) {
		t.Error("Reachable")
	}
	if e, ok := SelfLoop(f, 2); e != 1 || !ok {
		t.Error("SelfLoop")
	}
	f.Blocks[2].Term.To[0] = f.Blocks[2].Term.To[1]
	for _, b := range []int{-1, 0, 1, 2, 3, 4} {
		if _, ok := SelfLoop(f, b); ok {
			t.Error(b)
		}
	}
	if b, i, ok := Def(f, 3); b != 2 || i != -2 || !ok {
		t.Error("parameter")
	}
	if b, i, ok := Def(f, 6); b != 2 || i != 4 || !ok {
		t.Error("instruction")
	}
	for _, v := range []int{-1, 99} {
		if b, i, ok := Def(f, v); b != 0 || i != 0 || ok {
			t.Error(v)
		}
	}
	if Size(f) != 10 {
		t.Error(Size(f))
	}
}

func TestRenumber(t *testing.T) {
	f := loop()
	g := Renumber(f)
	if !Valid(g) || len(g.Blocks) != 3 || len(g.Widths) != 11 || g.Blocks[1].Line != 7 || !Same(g, Renumber(g)) || !Same(f, loop()) {
		t.Error(g)
	}
	// Other numbers of blocks and values.
	h := Clone(f)
	perm := []int{5, 3, 8, 1, 0, 12, 2, 4, 10, 11, 6, 7, 9}
	blocks := []int{0, 3, 1, 2}
	for v, p := range perm {
		h.Widths[p] = f.Widths[v]
	}
	move := func(l []int) {
		for i := range l {
			l[i] = perm[l[i]]
		}
	}
	moved := Clone(f)
	for b, block := range moved.Blocks {
		move(block.Params)
		for i := range block.Insts {
			move(block.Insts[i].Args)
			if d := block.Insts[i].Dest; d >= 0 {
				block.Insts[i].Dest = perm[d]
			}
		}
		if block.Term.Cond >= 0 {
			block.Term.Cond = perm[block.Term.Cond]
		}
		for i := range block.Term.To {
			block.Term.To[i].Block = blocks[block.Term.To[i].Block]
			move(block.Term.To[i].Args)
		}
		h.Blocks[blocks[b]] = block
	}
	if !Valid(h) || !Same(Renumber(h), g) {
		t.Error("numbers matter")
	}
}

func TestEmit(t *testing.T) {
	f := sum()
	before := Clone(f)
	g := f
	args := []int{2}
	if v := Emit(&g, 0, api.Inst{Op: api.OpZExt, Dest: 77, Args: args}, 9); v != 3 || g.Blocks[0].Insts[1].Dest != 3 || g.Widths[3] != 9 {
		t.Error(v)
	}
	args[0] = 0
	if v := Emit(&g, 0, api.Inst{Op: api.OpSend, Args: []int{2, 1}}, 9); v != -1 || g.Blocks[0].Insts[2].Dest != -1 || len(g.Widths) != 4 || g.Blocks[0].Insts[1].Args[0] != 2 {
		t.Error(v)
	}
	h := Clone(g)
	if Emit(&g, 1, api.Inst{Op: api.OpConst}, 9) != -1 || Emit(&g, -1, api.Inst{}, 9) != -1 || !Same(g, h) || !Same(f, before) {
		t.Error("no such block")
	}
}

func TestOperators(t *testing.T) {
	want := map[int]int{api.OpConst: 0, api.OpSelect: 3, api.OpZExt: 1, api.OpSExt: 1, api.OpTrunc: 1, api.OpLoad: 2, api.OpStore: 3, api.OpRecv: 1, api.OpSend: 2}
	for op := -1; op < 40; op++ {
		n, ok := want[op]
		if !ok {
			n = -1
			if op >= api.OpAdd && op <= api.OpSLe {
				n = 2
			}
		}
		if Arity(op) != n || Pure(op) != (n >= 0 && op < api.OpLoad) {
			t.Error(op, Arity(op), Pure(op))
		}
	}
}

func TestEmitWithoutFunction(t *testing.T) {
	if v := Emit(nil, 0, api.Inst{Op: api.OpConst}, 8); v != -1 {
		t.Error(v)
	}
}
