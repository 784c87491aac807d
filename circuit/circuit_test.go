package circuit

import (
	"slices"
	"testing"

	"jacquard/api"
	"jacquard/binding"
	"jacquard/cycles"
	"jacquard/irexec"
	"jacquard/irtext"
	"jacquard/netlist"
	"jacquard/sample"
	"jacquard/sample/lowered"
	"jacquard/sample/scheduled"
	"jacquard/sample/verify"
	"jacquard/sim"
)

// patterns are some patterns of stalls that open all streams in the same cycle again and again.
func patterns(streams int) []api.Pattern {
	list := []api.Pattern{{}}
	var a, b [][]bool
	for s := range streams {
		a = append(a, []bool{false, true})
		x := []bool{s%2 == 0, true, false, s%3 == 0, true, true}
		b = append(b, x)
	}
	return append(list, api.Pattern{Open: a}, api.Pattern{Open: b})
}

// compare simulates a circuit, and compares it with its function.
func compare(t *testing.T, f api.Func, scheds []api.Sched, n api.Netlist, seed uint64) bool {
	t.Helper()
	done := false
	for i := range uint64(2) {
		env := sample.FuncEnv(seed*2+i, f)
		want, _ := irexec.Run(f, env, 300)
		if want.Status == api.Fuel {
			continue
		}
		for k, p := range patterns(len(f.Streams)) {
			r, e := sim.Run(n, env, p, 40000)
			if e != api.OK {
				t.Fatal(e)
			}
			if want.Status == api.Starved {
				for s := range want.Outs {
					got := r.Outcome.Outs[s]
					if r.Outcome.Status == api.Done || len(got) > len(want.Outs[s]) || !slices.Equal(got, want.Outs[s][:len(got)]) {
						t.Fatal("starved", seed, k)
					}
				}
				continue
			}
			done = true
			want.Path = slices.Clip(want.Path)
			count, _ := cycles.Count(f, scheds, want.Path)
			if !verify.Outcomes(want, r.Outcome) || r.Cycles-r.Frozen != count {
				s, _ := irtext.Print(f)
				t.Fatal(s, scheds, seed, k, want, r.Outcome, r.Cycles-r.Frozen, count)
			}
		}
	}
	return done
}

func TestSamples(t *testing.T) {
	done, loops := 0, 0
	for seed := range uint64(250) {
		k, ok := scheduled.Make(seed, sample.Shape{Loops: true, Nested: seed%2 == 0, Streams: seed%4 != 0, Arrays: true, Division: seed%3 == 0, Directives: true, Statements: 5}, 600+int(seed%5)*300, []api.Limit{{Class: api.ClassMul, Count: 1}})
		if !ok {
			continue
		}
		b, e := binding.Bind(k.Func, k.Scheds)
		if e != api.OK {
			t.Fatal(e)
		}
		n, _, e := Build(k.Func, k.Scheds, b)
		if e != api.OK || netlist.Check(n) != api.OK {
			t.Fatal(seed, e)
		}
		if compare(t, k.Func, k.Scheds, n, seed) {
			done++
		}
		for c := range k.Scheds {
			if k.Scheds[c].II > 0 {
				loops++
			}
		}
	}
	if done < 100 || loops < 30 {
		t.Error(done, loops)
	}
}

func TestSimple(t *testing.T) {
	for seed := range uint64(100) {
		f := lowered.Func(seed, sample.Shape{Loops: true, Nested: true, Streams: true, Arrays: true, Division: true, Statements: 5})
		for a := range f.Arrays {
			f.Arrays[a].Kind, f.Arrays[a].Factor = 0, 0
		}
		n, _, e := Simple(f)
		if e != api.OK {
			t.Fatal(seed, e)
		}
		compare(t, f, Straight(f), n, seed)
	}
}

func example(t *testing.T, op string) api.Func {
	t.Helper()
	f, line, e := irtext.Parse("func f\nwidths 8 8 8\nrets 8\nblock 0 ( 0 1 )\n2 = " + op + " 0 1\nreturn 2\n")
	if e != api.OK {
		t.Fatal(line, e)
	}
	return f
}

func TestExample(t *testing.T) {
	f := example(t, "add")
	s := Straight(f)
	n, _, e := Simple(f)
	if e != api.OK || len(s) != 1 || s[0].Depth != 1 {
		t.Fatal(s, e)
	}
	r, _ := sim.Run(n, api.Env{Scalars: []uint64{250, 10}}, api.Pattern{}, 100)
	if r.Outcome.Status != api.Done || r.Cycles != 2 || !slices.Equal(r.Outcome.Rets, []uint64{4}) {
		t.Error(r)
	}
	m, _, _ := Simple(example(t, "xor"))
	different := 0
	for i := range n.Cells {
		if n.Cells[i].Op != m.Cells[i].Op {
			different++
			m.Cells[i].Op = n.Cells[i].Op
		}
	}
	if different != 1 || !netlist.Same(n, m) {
		t.Error(different)
	}
}

func TestStraight(t *testing.T) {
	f, line, e := irtext.Parse("func f\nwidths 8 8 8 8 1 8 8\narray a 8 4 whole\nstream i in 8\nstream o out 8\nrets 8\nblock 0 ( 0 1 )\n4 = const 1\n2 = mul 0 1\n3 = udiv 2 1\n5 = recv i 4\n6 = load a 5 4\nstore a 0 6 4\nsend o 3 4\nreturn 3\n")
	if e != api.OK {
		t.Fatal(line, e)
	}
	s := Straight(f)[0]
	if !slices.Equal(s.Start, []int{0, 0, 3, 7, 9, 11, 12}) || s.Depth != 13 || !slices.Equal(s.Unit, []int{-1, 0, 0, 0, 0, 0, 0}) || !slices.Equal(s.Params, []int{0, 0}) {
		t.Error(s)
	}
	if s := Straight(api.Func{Blocks: make([]api.Block, 1)}); s[0].Depth != 1 {
		t.Error(s)
	}
}

func TestErrors(t *testing.T) {
	f := example(t, "add")
	s := Straight(f)
	b, _ := binding.Bind(f, s)
	if _, _, e := Build(api.Func{}, nil, b); e != api.ErrForm {
		t.Error(e)
	}
	if n, _, e := Build(f, nil, b); e != api.ErrForm || len(n.Cells) > 0 {
		t.Error(e)
	}
	if _, _, e := Simple(api.Func{}); e != api.ErrForm {
		t.Error(e)
	}
	b.Places[0][1] = b.Places[0][0]
	if n, _, e := Build(f, s, b); e != api.ErrIllegal || len(n.Cells) > 0 {
		t.Error(e)
	}
	s[0].Depth = 70000
	b, _ = binding.Bind(f, s)
	if _, _, e := Build(f, s, b); e != api.ErrLimit {
		t.Error(e)
	}
}
