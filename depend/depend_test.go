package depend

import (
	"reflect"
	"testing"

	"jacquard/api"
	"jacquard/diophant"
	"jacquard/facts"
	"jacquard/ir"
	"jacquard/irexec"
	"jacquard/sample"
	"jacquard/sample/lowered"
)

// loop returns a function with one loop of some statements, facts, and the block of the loop.
func loop(t *testing.T, body string) (api.Func, []api.Fact, int) {
	t.Helper()
	f := lowered.Source("kernel k(n: u4, a: u8[16], b: u8[16], p: in u8, q: in u8, o: out u8, r: out u8) { for i: u8 in 0 .. 10 { " + body + " } }")
	if !ir.Valid(f) {
		t.Fatal(body)
	}
	for b := range f.Blocks {
		if _, ok := ir.SelfLoop(f, b); ok {
			return f, facts.Analyze(f), b
		}
	}
	t.Fatal("no loop")
	return f, nil, 0
}

func TestExample(t *testing.T) {
	f, known, b := loop(t, "a[i] = a[i + 2];")
	d, e := Analyze(f, b, known)
	if e != api.OK || !Check(f, b, known, d) {
		t.Fatal(e)
	}
	pairs := Pairs(f, b, known)
	if len(pairs) != 3 || pairs[0].Kind != api.DepAnti || pairs[1].Kind != api.DepFlow || pairs[2].Kind != api.DepOutput {
		t.Fatal(pairs)
	}
	load, store := pairs[0].From, pairs[0].To
	if pairs[0].Dists != (Segment{Lo: 0, Hi: 9}) || pairs[1].Dists != (Segment{Lo: 1, Hi: 9}) || pairs[2].From != pairs[2].To {
		t.Error(pairs)
	}
	if !reflect.DeepEqual(d.List, []Dep{{From: load, To: store, Kind: api.DepAnti, Dist: 2, Exact: true}}) {
		t.Error(d.List)
	}
	if len(d.Apart) != 3 || d.Apart[0].Dists != (Segment{Lo: 0, Hi: 1}) || d.Apart[1].Dists != (Segment{Lo: 1, Hi: 9}) {
		t.Error(d.Apart)
	}
	eq, ok := Meets(f, b, known, pairs[0], pairs[0].Dists)
	if !ok || eq.A != 0 || eq.B != -1 || eq.C != -2 || eq.X != (Segment{Hi: 9}) || eq.Sum != (Segment{Hi: 9}) {
		t.Error(eq)
	}
	// Without a certificate, or with a dependence that comes too late, nothing is covered.
	bad := d
	bad.Apart = d.Apart[1:]
	if Check(f, b, known, bad) {
		t.Error("a certificate is missing")
	}
	bad = Deps{List: []Dep{{From: load, To: store, Dist: 3}}, Apart: d.Apart}
	if Check(f, b, known, bad) {
		t.Error("distance 2 is not covered")
	}
	bad.List[0].Dist = 1
	if !Check(f, b, known, bad) {
		t.Error("a dependence that comes earlier")
	}
	bad = Deps{List: []Dep{{From: store, To: load, Dist: 1}, {From: load, To: store}, {From: store, To: store, Dist: 1, Lat: 1}}}
	if Check(f, b, known, bad) {
		t.Error("the latency is too small")
	}
	bad.List[0].Lat = 5
	if !Check(f, b, known, bad) {
		t.Error("dependences without certificates")
	}
}

func TestKinds(t *testing.T) {
	f, known, b := loop(t, "let x = recv(p); send o(x); send r(recv(q)); send o(recv(p)); a[x] = x; let y = a[2]; send r(y + b[i]);")
	d, _ := Analyze(f, b, known)
	if !Check(f, b, known, d) {
		t.Fatal("Check")
	}
	insts := f.Blocks[b].Insts
	kinds := map[int]int{}
	for _, p := range Pairs(f, b, known) {
		x, y := insts[p.From].Op, insts[p.To].Op
		kinds[p.Kind]++
		lat := 1
		if x == api.OpLoad || x == api.OpRecv && y == api.OpSend {
			lat = 0
		}
		if x == api.OpSend && y != api.OpSend || x == api.OpLoad && y == api.OpLoad || p.Lat != lat || (p.Dists.Lo == 0) != (p.From < p.To) {
			t.Error(p)
		}
	}
	// Receives: 4 pairs of p, 1 of q; sends: 4 of o, 4 of r; 3 receives ahead of 4 sends; a store, and a load of its array.
	if kinds[api.DepStream] != 5+8+12 || kinds[api.DepFlow] != 1 || kinds[api.DepAnti] != 1 || kinds[api.DepOutput] != 1 {
		t.Error(kinds)
	}
	g := lowered.Source("kernel k(a: u8[4], o: out u8) { a[1] = 2; send o(a[1]); a[1] = 3; send o(a[2]); }")
	all := facts.Analyze(g)
	d, e := Analyze(g, 0, all)
	if e != api.OK || len(Pairs(g, 0, all)) != 6 || !Check(g, 0, all, d) || len(d.List) != 4 {
		t.Error(d, e, Pairs(g, 0, all))
	}
	for _, x := range d.List {
		if x.Dist != 0 || x.From >= x.To {
			t.Error(x)
		}
	}
}

func TestErrors(t *testing.T) {
	f, known, b := loop(t, "a[i] = 1;")
	if _, e := Analyze(f, 99, known); e != api.ErrRange || Pairs(f, 99, known) != nil || Check(f, -1, known, Deps{}) {
		t.Error(e)
	}
	if _, e := Analyze(f, 99, nil); e != api.ErrForm || Pairs(f, b, nil) != nil || Check(f, b, nil, Deps{}) {
		t.Error(e)
	}
	if _, e := Analyze(api.Func{}, 0, nil); e != api.ErrForm {
		t.Error(e)
	}
	for _, p := range []Pair{{From: -1}, {From: 0, To: 999}, {}} {
		if e, ok := Meets(f, b, known, p, Segment{}); ok || e != (Equation{}) {
			t.Error(p)
		}
	}
}

// TestSamples compares dependences with the accesses of runs.
func TestSamples(t *testing.T) {
	met, exact, apart := 0, 0, 0
	bodies := []string{"a[i] = a[i + 1] + 1;", "a[i + 1] = a[i] + 1;", "a[2 * i] = a[i];", "a[i * 3 % 16] = a[i];", "a[15 - i] = a[i]; b[i] = a[3];", "a[i + (n as u8)] = a[i + (n as u8) + 3];", "a[i & 3] = a[i]; a[i] = 7;", "a[recv(p)] = a[i];", "a[i << 1] = a[(i << 1) + 1];"}
	for n := range uint64(150) {
		var f api.Func
		if n < uint64(len(bodies)) {
			f, _, _ = loop(t, bodies[n])
		} else {
			f = lowered.Func(n, sample.Shape{Loops: true, Nested: true, Arrays: true, Statements: 6})
		}
		known := facts.Analyze(f)
		deps := make([]Deps, len(f.Blocks))
		for b := range f.Blocks {
			var e api.Errno
			deps[b], e = Analyze(f, b, known)
			if e != api.OK || !Check(f, b, known, deps[b]) {
				t.Fatal("Check", n)
			}
			for _, x := range deps[b].List {
				if x.Exact {
					exact++
				}
			}
			for _, x := range deps[b].Apart {
				apart++
				eq, ok := Meets(f, b, known, Pair{From: x.From, To: x.To}, x.Dists)
				if !ok || !diophant.Check(eq, x.No) {
					t.Fatal("certificate")
				}
			}
		}
		for i := range uint64(2) {
			visits, _, _ := irexec.Trace(f, sample.FuncEnv(n*2+i, f), 200)
			met += compare(t, f, deps, visits)
		}
	}
	if met < 100 || exact < 10 || apart < 10 {
		t.Error(met, exact, apart)
	}
}

// compare looks at all pairs of accesses of one array in the executions of loops.
func compare(t *testing.T, f api.Func, deps []Deps, visits []api.Visit) int {
	t.Helper()
	met := 0
	for begin := 0; begin < len(visits); {
		b := visits[begin].Block
		end := begin + 1
		if _, loop := ir.SelfLoop(f, b); loop {
			for end < len(visits) && visits[end].Block == b {
				end++
			}
		}
		insts := f.Blocks[b].Insts
		for x := begin; x < end; x++ {
			for y := x; y < end; y++ {
				for i, p := range insts {
					for j, q := range insts {
						if ir.Pure(p.Op) || ir.Pure(q.Op) || p.Op == api.OpLoad && q.Op == api.OpLoad || p.Mem != q.Mem || p.Op > api.OpStore || q.Op > api.OpStore || x == y && i >= j {
							continue
						}
						at := irexec.Words(f, visits[x], p.Args[:1])[0]
						if at != irexec.Words(f, visits[y], q.Args[:1])[0] || at >= uint64(f.Arrays[p.Mem].Len) {
							continue
						}
						met++
						found := false
						for _, d := range deps[b].List {
							found = found || d.From == i && d.To == j && d.Dist <= y-x
						}
						if !found {
							t.Fatal("a dependence is missing", b, i, j, y-x)
						}
					}
				}
			}
		}
		begin = end
	}
	return met
}
