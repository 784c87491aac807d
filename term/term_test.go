package term

import (
	"math/rand"
	"slices"
	"testing"

	"jacquard/api"
	"jacquard/bits"
	"jacquard/operator"
)

func must(t *testing.T) func(x int, e api.Errno) int {
	return func(x int, e api.Errno) int {
		t.Helper()
		if e != api.OK {
			t.Fatal(e)
		}
		return x
	}
}

func TestRandom(t *testing.T) {
	r := rand.New(rand.NewSource(1))
	for range 400 {
		var table Table
		for i := range 5 {
			table.Symbol([]int{1, 1, 4, 4, 7}[i], uint64(i))
		}
		for w := range 3 {
			table.Const([]int{1, 4, 7}[w], r.Uint64())
			table.Const([]int{1, 4, 7}[w], 0)
		}
		type made struct {
			op, width, x int
			args         []int
		}
		var list []made
		for range 60 {
			op := api.OpAdd + r.Intn(api.OpTrunc-api.OpAdd+1)
			w := []int{1, 4, 7}[r.Intn(3)]
			pick := func(w int) int {
				for {
					if x := r.Intn(len(table.Nodes)); table.Nodes[x].Width == w {
						return x
					}
				}
			}
			width, args := w, []int{pick(w), pick(w)}
			switch {
			case op == api.OpSelect:
				args = []int{pick(1), pick(w), pick(w)}
			case op == api.OpZExt, op == api.OpSExt:
				width, args = 7, []int{pick(w)}
			case op == api.OpTrunc:
				width, args = 1, []int{pick(w)}
			case bits.IsCompare(op):
				width = 1
			}
			n := len(table.Nodes)
			x, e := table.Make(op, width, args...)
			if e != api.OK || len(table.Nodes) > 5*n+200 {
				t.Fatal(e)
			}
			if y, _ := table.Make(op, width, args...); y != x {
				t.Fatal("another term")
			}
			list = append(list, made{op, width, x, args})
		}
		for i, n := range table.Nodes {
			for _, a := range n.Args {
				if a >= i {
					t.Fatal("arguments")
				}
			}
		}
		for range 8 {
			var words []Word
			for i := range 5 {
				words = append(words, Word{Symbol: uint64(i), Value: r.Uint64()})
			}
			values := table.Eval(words)
			for _, m := range list {
				var args []uint64
				var widths []int
				for _, a := range m.args {
					args, widths = append(args, values[a]), append(widths, table.Nodes[a].Width)
				}
				if values[m.x] != operator.Value(m.op, m.width, widths, args, 0) {
					t.Fatal(bits.Name(m.op), m.args)
				}
			}
		}
	}
}

func TestRules(t *testing.T) {
	var table Table
	ok := must(t)
	a, b, c := ok(table.Symbol(8, 1)), ok(table.Symbol(8, 2)), ok(table.Symbol(8, 3))
	p, q := ok(table.Symbol(1, 4)), ok(table.Symbol(1, 5))
	num := func(w int, n uint64) int { return ok(table.Const(w, n)) }
	mk := func(op, w int, args ...int) int { return ok(table.Make(op, w, args...)) }
	same := func(name string, list ...int) {
		t.Helper()
		for _, x := range list[1:] {
			if x != list[0] {
				t.Error(name, table.Nodes[list[0]], table.Nodes[x])
			}
		}
	}
	zero, one, mask := num(8, 0), num(8, 1), num(8, 255)
	for _, op := range []int{api.OpAdd, api.OpMul, api.OpAnd, api.OpOr, api.OpXor} {
		same("commute", mk(op, 8, a, b), mk(op, 8, b, a))
		same("associate", mk(op, 8, mk(op, 8, a, b), c), mk(op, 8, a, mk(op, 8, b, c)), mk(op, 8, mk(op, 8, a, c), b))
		aa := mk(op, 8, a, a)
		same("twice", mk(op, 8, aa, b), mk(op, 8, a, mk(op, 8, a, b)), mk(op, 8, mk(op, 8, b, a), a))
		same("four times", mk(op, 8, aa, aa), mk(op, 8, a, mk(op, 8, a, aa)))
	}
	same("eq", mk(api.OpEq, 1, a, b), mk(api.OpEq, 1, b, a))
	same("ne", mk(api.OpNe, 1, a, zero), mk(api.OpNe, 1, zero, a))
	same("a", a, mk(api.OpAdd, 8, a, zero), mk(api.OpSub, 8, a, zero), mk(api.OpMul, 8, one, a), mk(api.OpAnd, 8, a, mask), mk(api.OpOr, 8, zero, a), mk(api.OpXor, 8, a, zero), mk(api.OpAnd, 8, a, a), mk(api.OpOr, 8, a, a), mk(api.OpUDiv, 8, a, one), mk(api.OpShl, 8, a, zero), mk(api.OpLShr, 8, a, zero), mk(api.OpAShr, 8, a, zero),
		mk(api.OpSelect, 8, num(1, 1), a, b), mk(api.OpSelect, 8, num(1, 0), b, a), mk(api.OpSelect, 8, p, a, a), mk(api.OpZExt, 8, a), mk(api.OpSExt, 8, a), mk(api.OpTrunc, 8, a), mk(api.OpXor, 8, mk(api.OpXor, 8, a, b), b), mk(api.OpXor, 8, b, mk(api.OpXor, 8, b, a)))
	same("zero", zero, mk(api.OpSub, 8, a, a), mk(api.OpXor, 8, a, a), mk(api.OpAnd, 8, a, zero), mk(api.OpMul, 8, zero, a))
	same("mask", mask, mk(api.OpOr, 8, a, mask))
	same("true", num(1, 1), mk(api.OpEq, 1, a, a), mk(api.OpULe, 1, a, a), mk(api.OpSLe, 1, a, a))
	same("false", num(1, 0), mk(api.OpNe, 1, a, a), mk(api.OpULt, 1, a, a), mk(api.OpSLt, 1, a, a))
	notP := mk(api.OpXor, 1, p, num(1, 1))
	same("p", p, mk(api.OpEq, 1, p, num(1, 1)), mk(api.OpXor, 1, notP, num(1, 1)), mk(api.OpSelect, 1, p, num(1, 1), num(1, 0)))
	same("not p", notP, mk(api.OpNe, 1, num(1, 1), p), mk(api.OpEq, 1, p, num(1, 0)))
	same("select", mk(api.OpSelect, 8, notP, a, b), mk(api.OpSelect, 8, p, b, a))
	same("select and", mk(api.OpSelect, 1, p, q, num(1, 0)), mk(api.OpAnd, 1, p, q))
	same("select not", mk(api.OpSelect, 1, notP, q, num(1, 0)), mk(api.OpSelect, 1, p, num(1, 0), q), mk(api.OpAnd, 1, notP, q))
	same("words", num(8, 5), mk(api.OpAdd, 8, num(8, 250), num(8, 11)))
	if mk(api.OpSub, 8, a, b) == mk(api.OpAdd, 8, a, b) || mk(api.OpSub, 8, a, b) == mk(api.OpSub, 8, b, a) {
		t.Error("different terms")
	}
	// Squares of squares stay small.
	x, y := a, a
	for range 100 {
		x, y = mk(api.OpMul, 8, x, x), mk(api.OpAdd, 8, y, y)
	}
	if len(table.Nodes) > 400 {
		t.Error(len(table.Nodes))
	}
}

func TestErrors(t *testing.T) {
	var table Table
	x, _ := table.Symbol(8, 1)
	n := len(table.Nodes)
	for i, e := range []api.Errno{
		second(table.Symbol(0, 1)), second(table.Symbol(65, 1)), second(table.Const(0, 1)), second(table.Const(-1, 1)),
	} {
		if e != api.ErrWidth {
			t.Error(i, e)
		}
	}
	for i, e := range []api.Errno{
		second(table.Make(api.OpConst, 8)), second(table.Make(api.OpLoad, 8, x, x)), second(table.Make(api.OpAdd, 8, x)), second(table.Make(api.OpAdd, 8, x, 9)), second(table.Make(api.OpAdd, 8, -1, x)), second(table.Make(api.OpAdd, 7, x, x)), second(table.Make(api.OpEq, 8, x, x)), second(table.Make(0, 8, x, x)), second(table.Make(api.OpAdd, 8, x, x, x, x)), second(table.Make(api.OpTrunc, 9, x)),
	} {
		if e != api.ErrForm {
			t.Error(i, e)
		}
	}
	if len(table.Nodes) != n {
		t.Error("the table grows")
	}
	for i := range uint64(api.MaxTerms) {
		table.Symbol(8, 10+i)
	}
	if y, e := table.Symbol(8, 9); y != 0 || e != api.ErrLimit {
		t.Error(e)
	}
	if y, e := table.Make(api.OpAdd, 8, 0, 1); y != 0 || e != api.ErrLimit {
		t.Error(e)
	}
	if y, e := table.Symbol(8, 1); y != x || e != api.OK {
		t.Error(e)
	}
}

func second(_ int, e api.Errno) api.Errno { return e }

func TestSymbols(t *testing.T) {
	var table Table
	ok := must(t)
	a, b := ok(table.Symbol(8, 7)), ok(table.Symbol(8, 3))
	wide := ok(table.Symbol(9, 7))
	sum := ok(table.Make(api.OpAdd, 8, a, b))
	if !slices.Equal(table.Symbols(sum), []uint64{3, 7}) || table.Symbols(-1) != nil || table.Symbols(99) != nil || a == wide {
		t.Error(table.Symbols(sum))
	}
	v := table.Eval([]Word{{Symbol: 7, Value: 0x1FF}, {Symbol: 7, Value: 1}})
	if v[a] != 255 || v[b] != 0 || v[wide] != 0x1FF || v[sum] != 255 {
		t.Error(v)
	}
	if n, ok := table.Word(a); n != 0 || ok {
		t.Error("Word")
	}
}
