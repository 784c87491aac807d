package compile

import (
	"reflect"
	"slices"
	"strings"
	"testing"

	"jacquard/api"
	"jacquard/interp"
	"jacquard/ir"
	"jacquard/irexec"
	"jacquard/parser"
	"jacquard/sample"
	"jacquard/sample/verify"
	"jacquard/types"
)

func options() api.Options { return api.Options{Period: 1500, Passes: api.PassAll, MaxII: 64} }

// run compares a design with the interpreter.
func run(t *testing.T, s string, d api.Design, seed uint64) bool {
	t.Helper()
	n, _, _ := parser.Parse(s)
	n, _, _ = types.Check(n)
	kernel, _ := types.Kernel(n)
	done := false
	for i := range uint64(2) {
		env := sample.KernelEnv(seed*2+i, kernel)
		want, _ := interp.Run(n, env, 1500)
		if want.Status == api.Fuel {
			continue
		}
		for _, open := range [][][]bool{nil, {{true, false}, {true, false}, {true, false}}, {{false, true, true}, {true, true, true}, {true, true, false}}} {
			r, e := Run(d, env, api.Pattern{Open: open}, 40000)
			if e != api.OK {
				t.Fatal(s, e)
			}
			if want.Status == api.Starved {
				for x := range want.Outs {
					got := r.Outcome.Outs[x]
					if r.Outcome.Status == api.Done || len(got) > len(want.Outs[x]) || !slices.Equal(got, want.Outs[x][:len(got)]) {
						t.Fatal(s, "starved")
					}
				}
				if _, e := Cycles(d, env, 20000); e != api.ErrState {
					t.Fatal(e)
				}
				continue
			}
			count, e := Cycles(d, env, 20000)
			if e != api.OK || !verify.Outcomes(want, r.Outcome) || r.Cycles-r.Frozen != count {
				t.Fatal(s, e, want, r.Outcome, r.Cycles-r.Frozen, count)
			}
			done = true
		}
	}
	return done
}

func TestSamples(t *testing.T) {
	done, loops := 0, 0
	for seed := range uint64(120) {
		s := sample.Source(seed, sample.Shape{Calls: seed%5 == 0, Loops: true, Nested: seed%3 == 0, Streams: seed%4 != 0, Arrays: true, Division: seed%3 == 0, Directives: seed%2 == 0, Statements: 4})
		s = strings.Replace(s, "u8[8]", "u8[8] "+[]string{"", "cyclic 2", "blocks 3", "complete"}[seed%4], 1)
		o := options()
		o.Passes = []int{api.PassAll, 0, api.PassFold | api.PassCleanup, api.PassAll &^ api.PassIfConvert, int(seed*7) & api.PassAll}[seed%5]
		d, line, e := Compile(s, o)
		if e == api.ErrDirective || e == api.ErrPeriod {
			continue
		}
		if e != api.OK {
			t.Fatal(seed, s, line, e)
		}
		if e := Check(d); e != api.OK {
			t.Fatal(seed, s, e)
		}
		if f, e := Replay(d.First, d.Stages); e != api.OK || !ir.Same(f, d.Func) {
			t.Fatal(e)
		}
		if run(t, s, d, seed) {
			done++
		}
		loops += len(d.Loops)
	}
	if done < 60 || loops < 10 {
		t.Error(done, loops)
	}
}

func TestExample(t *testing.T) {
	s := "kernel k(a: u8, b: u8) -> u8 { return a + b; }"
	o := options()
	o.Period = 1000
	d, line, e := Compile(s, o)
	if e != api.OK || line != 0 || len(d.Func.Blocks) != 1 || d.Scheds[0].Depth != 1 || d.Delay > 1000 || d.Delay == 0 || d.Area == 0 || Check(d) != api.OK {
		t.Fatal(line, e)
	}
	r, e := Run(d, api.Env{Scalars: []uint64{200, 100}}, api.Pattern{}, 99)
	if e != api.OK || r.Cycles != 2 || !slices.Equal(r.Outcome.Rets, []uint64{44}) {
		t.Error(r, e)
	}
	if n, e := Cycles(d, api.Env{Scalars: []uint64{200, 100}}, 9); n != 2 || e != api.OK {
		t.Error(n, e)
	}
	o.Period = 100
	if d, line, e := Compile(s, o); e != api.ErrPeriod || line != 0 || d.Func.Blocks != nil {
		t.Error(line, e)
	}
	again, _, _ := Compile(s, d.Options)
	if !reflect.DeepEqual(again, d) {
		t.Error("not deterministic")
	}
}

// A condition may have operands that are the same as the condition, or never be true although terms do not tell.
func TestConditionsThatAreHardToProve(t *testing.T) {
	for _, s := range []string{
		"kernel k(a: u1, b: u1) -> u8 { var x: u8 = 3; let t: u1 = a & b; let c: u1 = t & a; if c { x = x + 4; } return x; }",
		"kernel k(a: u1, o: out u8) -> u8 { let c: u1 = a & ((a ^ 1) + (a << a)); if c { send o(5); } return a as u8; }",
		"kernel k(p: u1, o: out u8) -> u8 { let v: u1 = (((1 | p) ? (p - p) : p) ? (p >> ~p) : ((p << 1) & (0 || p))); if p & v { send o(7); } return 1; }",
		"kernel k(n: u8, a: u1) -> u8 { var x: u8 = n; let t: u1 = a & (a | (a << a)); while x != 0 && (t & (t ? a : 0)) { x = x - 1; } return x; }",
	} {
		for _, passes := range []int{0, api.PassAll, api.PassIfConvert, api.PassAll &^ api.PassIfConvert} {
			o := options()
			o.Passes = passes
			d, line, e := Compile(s, o)
			if e != api.OK || Check(d) != api.OK {
				t.Error(s, passes, line, e, Check(d))
				continue
			}
			run(t, s, d, 1)
		}
	}
}

func TestLoops(t *testing.T) {
	for i, c := range []struct {
		s      string
		passes int
		ii     int
	}{
		{"kernel k(q: in u8, o: out u8) { #pipeline\nwhile true { send o(recv(q) + 1); } }", api.PassAll, 1},
		{"kernel k(a: u8[64], b: u8[64]) { #pipeline\nfor i: u8 in 0 .. 64 { b[i] = a[i] * 3 + 1; } }", api.PassAll, 1},
		{"kernel k(a: u8[64]) -> u8 { var s: u8; #pipeline\nfor i: u8 in 0 .. 63 { s = s + a[i] * a[i + 1]; } return s; }", api.PassAll, 2},
		{"kernel k(a: u8[64] cyclic 2) -> u8 { var s: u8; #pipeline\nfor i: u8 in 0 .. 32 { s = s + a[i * 2] + a[i * 2 + 1]; } return s; }", api.PassAll, 1},
		{"kernel k(q: in u8, o: out u8) { var t: u8; #pipeline 3\nwhile t < 200 { let x = recv(q); if x > 9 { t = t + 7; } else { send o(t); t = t + 1; } } }", api.PassAll, 3},
		{"kernel k(a: u8[16], o: out u8) { for j: u8 in 0 .. 4 { #unroll\nfor i: u8 in 0 .. 4 { a[i + j * 4] = a[i] + j; } #pipeline\nfor i: u8 in 0 .. 4 { send o(a[i]); } } }", api.PassAll, 1},
		{"kernel k(x: u16, o: out u16) { var y: u16 = x; #pipeline\nwhile y != 0 { y = y / 3; send o(y * y); } }", 0, 0},
	} {
		o := options()
		o.Passes = c.passes
		d, line, e := Compile(c.s, o)
		if e != api.OK || Check(d) != api.OK || len(d.Loops) == 0 {
			t.Fatal(i, line, e)
		}
		if c.ii > 0 && d.Loops[0].II != c.ii {
			t.Error(i, d.Loops[0].II)
		}
		run(t, c.s, d, uint64(i))
	}
}

func TestDirectives(t *testing.T) {
	for _, c := range []struct {
		s    string
		line int
	}{
		{"kernel k(n: u8, o: out u8) {\n#unroll\nfor i: u8 in 0 .. n { send o(i); } }", 2}, {"kernel k(n: u8, o: out u8) {\n\n#pipeline\nwhile n > 3 { while n > 2 { send o(1); } } }", 3}, {"kernel k(o: out u8) {\n#unroll\nfor i: u8 in 0 .. 65 { send o(i); } }", 2},
	} {
		d, line, e := Compile(c.s, options())
		if e != api.ErrDirective || line != c.line || d.Func.Blocks != nil {
			t.Error(c.s, line, e)
		}
	}
	// A loop that contains a loop which vanishes is one.
	d, line, e := Compile("kernel k(o: out u8, n: u8) { #pipeline\nfor j: u8 in 0 .. n {\n#unroll\nfor i: u8 in 0 .. 3 { if i > 1 { send o(i + j); } } } }", options())
	if e != api.OK || len(d.Loops) != 1 || d.Loops[0].II != 1 {
		t.Error(line, e, d.Loops)
	}
	// The directives of a loop that is left in its first iteration vanish.
	d, _, e = Compile("kernel k(o: out u8) { #pipeline\nfor i: u8 in 0 .. 1 { send o(i); } }", options())
	if e != api.OK || len(d.Loops) != 0 || len(d.Func.Blocks) != 1 {
		t.Error(e, d.Loops)
	}
}

func TestErrors(t *testing.T) {
	for _, c := range []struct {
		s    string
		o    api.Options
		line int
		e    api.Errno
	}{
		{"kernel k() {\n$", options(), 2, api.ErrSyntax}, {"kernel k() {\nx = 1; }", options(), 2, api.ErrName}, {"kernel k() { }", api.Options{}, 0, api.ErrArg}, {"$", api.Options{}, 1, api.ErrSyntax}, {"kernel k() { }", api.Options{Period: 1 << 21, MaxII: 1}, 0, api.ErrArg}, {"kernel k() { }", api.Options{Period: 500, MaxII: 257}, 0, api.ErrArg}, {"kernel k() { }", api.Options{Period: 500, MaxII: 1, Passes: 64}, 0, api.ErrArg}, {"kernel k() { }", api.Options{Period: 500, MaxII: 1, Limits: []api.Limit{{Class: 0, Count: 1}}}, 0, api.ErrArg}, {"kernel k() { }", api.Options{Period: 500, MaxII: 1, Limits: []api.Limit{{Class: 1, Count: 0}}}, 0, api.ErrArg},
		{"kernel k(q: in u8, o: out u8) { #pipeline 9\nwhile true { send o(recv(q)); } }", api.Options{Period: 1500, MaxII: 8, Passes: api.PassAll}, 0, api.ErrInfeasible},
	} {
		if d, line, e := Compile(c.s, c.o); line != c.line || e != c.e || d.Func.Blocks != nil {
			t.Error(c.s, line, e)
		}
	}
	f, _, _ := Front("kernel k(a: u8[4] cyclic 2, n: u8) { #pipeline\nwhile n > 3 { if n > 2 { a[n] = 1; } } }")
	if _, e := Back(f, options()); e != api.ErrForm {
		t.Error(e)
	}
	if _, e := Back(api.Func{}, api.Options{}); e != api.ErrForm {
		t.Error(e)
	}
	if _, _, _, e := Prepare(api.Func{}, api.Options{}); e != api.ErrForm {
		t.Error(e)
	}
	if _, _, _, e := Prepare(f, api.Options{}); e != api.ErrArg {
		t.Error(e)
	}
	if _, e := Replay(api.Func{}, nil); e != api.ErrForm {
		t.Error(e)
	}
	for _, s := range []api.Stage{{}, {Kind: api.StageSplit}, {Kind: api.StageConvert, Moves: []api.Move{{}}}, {Kind: api.StageUnroll, Moves: []api.Move{{}}}, {Kind: api.StageRewrite, Witness: api.Witness{Rounds: []api.Round{{Steps: []api.Step{{}}}}}}} {
		if _, e := Replay(f, []api.Stage{s}); e != api.ErrWitness {
			t.Error(s, e)
		}
	}
}

func TestCheck(t *testing.T) {
	s := "kernel k(a: u8[64] cyclic 2, n: u8) -> u8 { var s: u8; #pipeline\nfor i: u8 in 0 .. 32 { s = s + a[i * 2] + a[i * 2 + 1] * n; } return s; }"
	make := func() api.Design {
		d, _, e := Compile(s, options())
		if e != api.OK {
			t.Fatal(e)
		}
		return d
	}
	d := make()
	if Check(d) != api.OK || len(d.Loops) != 1 {
		t.Fatal(Check(d))
	}
	b := d.Loops[0].Block
	for i, c := range []struct {
		e      api.Errno
		change func(d *api.Design)
	}{
		{api.ErrForm, func(d *api.Design) { d.Options.Period = 0 }}, {api.ErrForm, func(d *api.Design) { d.Facts = d.Facts[1:] }}, {api.ErrForm, func(d *api.Design) { d.Scheds = nil }}, {api.ErrForm, func(d *api.Design) { d.First = api.Func{} }}, {api.ErrWitness, func(d *api.Design) { d.Stages = nil }}, {api.ErrWitness, func(d *api.Design) { d.Func.Name = "x" }}, {api.ErrIllegal, func(d *api.Design) {
			d.Deps[b].List = nil
			d.Deps[b].Apart = nil
			d.Flows[b].Arcs = d.Flows[b].Arcs[1:]
		}}, {api.ErrIllegal, func(d *api.Design) { d.Scheds[b].Start[0] += 300 }}, {api.ErrIllegal, func(d *api.Design) { d.Loops[0].Asked++ }}, {api.ErrIllegal, func(d *api.Design) { d.Loops = nil }}, {api.ErrIllegal, func(d *api.Design) { d.Loops[0].Bound = api.Bound{} }}, {api.ErrIllegal, func(d *api.Design) { d.Loops[0].Trees = []api.Refutation{{II: 1}} }}, {api.ErrIllegal, func(d *api.Design) { d.Binding.Regs[0].Width++ }}, {api.ErrIllegal, func(d *api.Design) { d.Net.Cells[0].Num++ }}, {api.ErrIllegal, func(d *api.Design) { d.Layout.Done++ }}, {api.ErrIllegal, func(d *api.Design) { d.Delay-- }}, {api.ErrIllegal, func(d *api.Design) { d.Area++ }}, {api.ErrIllegal, func(d *api.Design) { d.Facts[0].Hi = 1 }},
		{api.ErrProof, func(d *api.Design) { d.Proof.Facts = nil }}, {api.ErrProof, func(d *api.Design) { d.Proof.Points = d.Proof.Points[1:] }}, {api.ErrProof, func(d *api.Design) { d.Proof.Func.Name = "x" }}, {api.ErrProof, func(d *api.Design) { d.Proof.Scheds[0].Depth++ }}, {api.ErrProof, func(d *api.Design) { d.Proof.Deps = nil }},
	} {
		d := make()
		c.change(&d)
		if e := Check(d); e != c.e {
			t.Error(i, e)
		}
	}
}

func TestScatter(t *testing.T) {
	d, _, e := Compile("kernel k(a: u8[4] cyclic 2, x: u8) { a[x] = 7; }", options())
	if e != api.OK || len(d.Func.Arrays) != 2 {
		t.Fatal(e)
	}
	env := api.Env{Scalars: []uint64{2}, Arrays: [][]uint64{{1, 2, 3, 4}}}
	inner, e := Scatter(d, env)
	if e != api.OK || !reflect.DeepEqual(inner.Arrays, [][]uint64{{1, 3}, {2, 4}}) {
		t.Error(inner, e)
	}
	o, e := Gather(d, api.Outcome{Status: api.Done, Arrays: inner.Arrays})
	if e != api.OK || !reflect.DeepEqual(o.Arrays, env.Arrays) {
		t.Error(o, e)
	}
	if _, e := Scatter(d, api.Env{}); e != api.ErrArg {
		t.Error(e)
	}
	if _, e := Gather(d, api.Outcome{}); e != api.ErrArg {
		t.Error(e)
	}
	if _, e := Run(d, api.Env{}, api.Pattern{}, 9); e != api.ErrArg {
		t.Error(e)
	}
	if _, e := Cycles(d, env, 0); e != api.ErrFuel {
		t.Error(e)
	}
	d.Stages = []api.Stage{{}}
	if _, e := Scatter(d, env); e != api.ErrForm {
		t.Error(e)
	}
	plain, _, _ := Compile("kernel k(a: u8[2], x: u8) { a[x] = 7; }", options())
	if _, e := Scatter(plain, env); e != api.ErrArg {
		t.Error(e)
	}
	if _, e := Gather(plain, api.Outcome{}); e != api.ErrArg {
		t.Error(e)
	}
	if o, e := Gather(plain, api.Outcome{Arrays: [][]uint64{{1, 2}}}); e != api.OK || len(o.Arrays) != 1 {
		t.Error(e)
	}
}

func TestPrepare(t *testing.T) {
	for seed := range uint64(40) {
		s := sample.Source(seed+500, sample.Shape{Loops: true, Nested: true, Arrays: true, Streams: true, Directives: true, Statements: 5})
		f, _, e := Front(s)
		if e != api.OK {
			t.Fatal(e)
		}
		g, stages, _, e := Prepare(f, options())
		if e == api.ErrDirective {
			continue
		}
		if e != api.OK || !loopsStay(g) {
			t.Fatal(seed, e)
		}
		h, e := Replay(f, stages)
		if e != api.OK || !ir.Same(g, h) {
			t.Fatal("Replay", e)
		}
		env := sample.FuncEnv(seed, f)
		want, _ := irexec.Run(f, env, 2000)
		got, _ := irexec.Run(g, env, 2000)
		if want.Status != api.Fuel && !verify.Outcomes(want, got) {
			t.Fatal("outcome", seed)
		}
	}
}
