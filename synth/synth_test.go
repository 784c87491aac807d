package synth

import (
	"math/rand"
	"slices"
	"testing"

	"jacquard/api"
	"jacquard/binding"
	"jacquard/bits"
	"jacquard/circuit"
	"jacquard/gates"
	"jacquard/library"
	"jacquard/operator"
	"jacquard/sample"
	"jacquard/sample/scheduled"
	"jacquard/sim"
	"jacquard/timing"
)

// check compares the gates of an operator with its values.
func check(t *testing.T, op int, widths []int, width int, words [][]uint64) {
	t.Helper()
	l, out, e := Operator(op, widths, width)
	if e != api.OK || gates.Check(l) != api.OK || len(out) != width {
		t.Fatal(bits.Name(op), widths, width, e)
	}
	sum := 0
	for _, w := range widths {
		sum += w
	}
	times, de := gates.Depths(l, make([]int, sum))
	w := width
	if bits.IsCompare(op) {
		w = widths[0]
	}
	u, _ := library.Of(op, w)
	for _, g := range out {
		if de != api.OK || times[g] > u.Delay {
			t.Fatal("too slow", bits.Name(op), widths, times[g], u.Delay)
		}
	}
	for _, args := range words {
		var in []bool
		for i, x := range args {
			for b := range widths[i] {
				in = append(in, x>>b&1 == 1)
			}
		}
		values, _ := gates.Eval(l, in)
		want := operator.Value(op, width, widths, args, 0)
		for b, g := range out {
			if values[g] != (want>>b&1 == 1) {
				t.Fatal(bits.Name(op), widths, args, b)
			}
		}
	}
}

func TestOperators(t *testing.T) {
	r := rand.New(rand.NewSource(1))
	for op := api.OpAdd; op <= api.OpTrunc; op++ {
		if !isOperator(op) {
			continue
		}
		for _, w := range []int{1, 2, 3, 4, 5, 7, 8, 9, 16, 31, 32, 33, 63, 64} {
			width, widths := w, []int{w, w}
			switch {
			case op == api.OpSelect:
				widths = []int{1, w, w}
			case op == api.OpZExt, op == api.OpSExt:
				widths = []int{max(1, w-r.Intn(3))}
			case op == api.OpTrunc:
				widths = []int{min(64, w+r.Intn(3))}
			case bits.IsCompare(op):
				width = 1
			}
			var words [][]uint64
			for x := range 256 {
				args := make([]uint64, len(widths))
				for i := range args {
					args[i] = bits.Fit(widths[i], r.Uint64()>>r.Intn(64))
					if w <= 4 {
						args[i] = bits.Fit(widths[i], uint64(x)>>(4*(i%2)))
					}
				}
				if x%5 == 0 {
					args[len(args)-1] = args[0]
				}
				if x%7 == 0 {
					args[len(args)-1] = bits.Fit(widths[len(args)-1], uint64(r.Intn(70)))
				}
				for i := range args {
					args[i] = bits.Fit(widths[i], args[i])
				}
				words = append(words, args)
			}
			check(t, op, widths, width, words)
		}
	}
}

func TestErrors(t *testing.T) {
	for _, op := range []int{0, -1, api.OpConst, api.OpMul, api.OpUDiv, api.OpSRem, api.OpLoad, 99} {
		if l, out, e := Operator(op, []int{8, 8}, 8); e != api.ErrArg || l != nil || out != nil {
			t.Error(op, e)
		}
	}
	for _, c := range []struct {
		op     int
		widths []int
		width  int
	}{{api.OpAdd, []int{8, 9}, 8}, {api.OpAdd, []int{8}, 8}, {api.OpAdd, []int{65, 65}, 65}, {api.OpEq, []int{8, 8}, 8}, {api.OpSelect, []int{8, 8, 8}, 8}, {api.OpZExt, []int{9}, 8}, {api.OpTrunc, []int{7}, 8}, {api.OpAdd, nil, 0}} {
		if l, out, e := Operator(c.op, c.widths, c.width); e != api.ErrWidth || l != nil || out != nil {
			t.Error(c, e)
		}
	}
	if l, out, _ := Operator(api.OpAdd, []int{1, 1}, 1); l[out[0]] != (api.Gate{Kind: api.GateXor, A: 0, B: 1}) {
		t.Error(l)
	}
	if m, e := Netlist(api.Netlist{}); e != api.ErrForm || m.Gates != nil {
		t.Error(e)
	}
	if _, e := Values(api.Netlist{}, api.Mesh{Gates: []api.Gate{{}}}, nil); e != api.ErrForm {
		t.Error(e)
	}
	if _, e := Values(api.Netlist{}, api.Mesh{}, []uint64{1}); e != api.ErrArg {
		t.Error(e)
	}
}

// TestCircuits compares the gates of circuits with their simulation, and the longest paths with the period.
func TestCircuits(t *testing.T) {
	for seed := range uint64(60) {
		period := 600 + int(seed%5)*200
		k, ok := scheduled.Make(seed, sample.Shape{Loops: true, Nested: seed%2 == 0, Streams: true, Arrays: true, Division: seed%3 == 0, Directives: true, Statements: 4}, period, nil)
		if !ok {
			continue
		}
		period = max(period, library.Least(k.Func))
		b, _ := binding.Bind(k.Func, k.Scheds)
		n, _, e := circuit.Build(k.Func, k.Scheds, b)
		if e != api.OK {
			t.Fatal(e)
		}
		m, e := Netlist(n)
		if e != api.OK {
			t.Fatal(e)
		}
		words, _ := timing.Words(n)
		path, ge := timing.Gates(n, m)
		if words.Delay > period || ge != api.OK || path.Delay > words.Delay {
			t.Fatal("paths", seed, words.Delay, path.Delay, period)
		}
		compare(t, k.Func, n, m, seed)
	}
}

// compare looks at some cycles.
func compare(t *testing.T, f api.Func, n api.Netlist, m api.Mesh, seed uint64) {
	t.Helper()
	machine, _ := sim.New(n)
	s, _ := machine.Start(sample.FuncEnv(seed, f))
	for c := range 12 {
		open := make([]bool, len(n.Streams))
		for i := range open {
			open[i] = (c+i)%3 > 0
		}
		words := machine.Wires(s, open)
		values, e := Values(n, m, words)
		if e != api.OK {
			t.Fatal(e)
		}
		for w, list := range m.Bits {
			for i, g := range list {
				if values[g] != (words[w]>>i&1 == 1) {
					t.Fatal("wire", w, i)
				}
			}
		}
		machine.Step(&s, open)
		for i, list := range m.Next {
			if (n.Cells[i].Kind == api.CellReg) != (len(list) > 0) {
				t.Fatal("Next")
			}
			for b, g := range list {
				if values[g] != (s.Words[i]>>b&1 == 1) {
					t.Fatal("register", i, b)
				}
			}
		}
	}
	if slices.ContainsFunc(m.Bits, func(l []int) bool { return len(l) == 0 }) {
		t.Fatal("a wire without bits")
	}
}
