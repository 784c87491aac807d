package proof

import (
	"reflect"
	"slices"
	"testing"

	"jacquard/api"
	"jacquard/binding"
	"jacquard/circuit"
	"jacquard/irexec"
	"jacquard/netlist"
	"jacquard/sample"
	"jacquard/sample/scheduled"
	"jacquard/sim"
)

// loop is a function whose block 1 is a loop, entered from block 0, and left to block 2.
func loop(ii, depth, self int) (api.Func, []api.Sched) {
	f := api.Func{Name: "f", Widths: []int{1, 1}, Blocks: []api.Block{
		{Params: []int{0}, Term: api.Term{Kind: api.Jump, Cond: -1, To: []api.Edge{{Block: 1, Args: []int{0}}}}},
		{Params: []int{1}, Term: api.Term{Kind: api.Branch, Cond: 1, To: []api.Edge{{Block: 2}, {Block: 2}}}},
		{Term: api.Term{Kind: api.Return, Cond: -1}}}}
	f.Blocks[1].Term.To[self] = api.Edge{Block: 1, Args: []int{1}}
	return f, []api.Sched{{Depth: 2, Params: []int{0}}, {II: ii, Depth: depth, Params: []int{0}}, {Depth: 1}}
}

func TestPoints(t *testing.T) {
	f, s := loop(1, 2, 0)
	cut := func(kind, block, cycle, lo, hi int) Point {
		return Point{Kind: kind, Block: block, Cycle: cycle, Lo: lo, Hi: hi}
	}
	want := []Point{cut(api.CutStart, 0, 0, 0, 0), cut(api.CutBlock, 0, 0, 0, 0), cut(api.CutBlock, 0, 1, 0, 0), cut(api.CutLoop, 1, 0, 0, 0), cut(api.CutLoop, 1, 0, 0, 1), cut(api.CutLoop, 1, 0, 1, 1), cut(api.CutLoop, 1, 0, 0, 2), cut(api.CutLoop, 1, 0, 1, 2), cut(api.CutBlock, 2, 0, 0, 0), cut(api.CutDone, 2, 0, 0, 0)}
	got, e := Points(f, s)
	if e != api.OK || !reflect.DeepEqual(got, want) {
		t.Error(got, e)
	}
	ways := Next(f, s, want[3])
	if len(ways) != 2 || ways[0].Cond != 1 || !ways[0].Truth || ways[0].Edge != 0 || !ways[0].Shift || ways[1].Edge != -1 || ways[1].Truth || !ways[1].Shift || ways[1].To.Lo != 1 {
		t.Error(ways)
	}
	if w := Next(f, s, want[5]); len(w) != 1 || w[0].Edge != 1 || w[0].Cond != -1 || w[0].Shift || w[0].To.Block != 2 {
		t.Error(w)
	}
	if Next(f, s, want[9]) != nil || len(Next(f, s, want[1])) != 1 {
		t.Error("Next")
	}
	// With one stage the loop is left by its condition; here it goes on if that is 0.
	f, s = loop(2, 2, 1)
	ways = Next(f, s, cut(api.CutLoop, 1, 1, 0, 1))
	if len(ways) != 2 || ways[0].Truth || ways[0].Edge != 1 || !ways[0].Shift || !Same(ways[0].To, Point{Kind: api.CutLoop, Block: 1, Hi: 1}) || !ways[1].Truth || ways[1].Edge != 0 || ways[1].Shift || ways[1].To.Block != 2 {
		t.Error(ways)
	}
	if w := Next(f, s, cut(api.CutLoop, 1, 0, 0, 0)); len(w) != 1 || w[0].To.Cycle != 1 || w[0].Shift {
		t.Error(w)
	}
	for _, p := range []Point{{}, cut(api.CutStart, 1, 0, 0, 0), cut(api.CutBlock, 1, 0, 0, 0), cut(api.CutBlock, 0, 2, 0, 0), cut(api.CutBlock, 0, 0, 0, 1), cut(api.CutLoop, 1, 2, 0, 0), cut(api.CutLoop, 1, 0, 1, 0), cut(api.CutLoop, 1, 0, 0, 2), cut(api.CutLoop, 0, 0, 0, 0), cut(api.CutDone, 0, 0, 0, 0), cut(api.CutBlock, 9, 0, 0, 0), cut(api.CutBlock, -1, 0, 0, 0)} {
		if Next(f, s, p) != nil {
			t.Error(p)
		}
	}
	s[0].II = 1
	if _, e := Points(f, s); e != api.ErrForm || Next(f, s, want[0]) != nil {
		t.Error(e)
	}
	f, s = loop(1, 300, 0)
	if l, e := Points(f, s); e != api.ErrLimit || l != nil {
		t.Error(e)
	}
	if Local(s, cut(api.CutLoop, 1, 0, 0, 2), 2) != 2 || Local(s, cut(api.CutBlock, 0, 1, 0, 0), 0) != 1 || Local(s, cut(api.CutLoop, 9, 3, 0, 0), 2) != 0 || Local(s, cut(api.CutDone, 0, 3, 0, 0), 2) != 0 {
		t.Error("Local")
	}
	if !Same(Point{Kind: 1, Holds: []Hold{{}}}, Point{Kind: 1}) || Same(Point{Hi: 1}, Point{}) {
		t.Error("Same")
	}
}

// TestHolds follows simulations along the points, and looks whether the Holds are true.
func TestHolds(t *testing.T) {
	cyclesSeen := 0
	for seed := range uint64(80) {
		k, ok := scheduled.Make(seed, sample.Shape{Loops: true, Streams: seed%2 == 0, Arrays: true, Division: seed%3 == 0, Directives: true, Statements: 4}, 700, nil)
		if !ok {
			continue
		}
		b, _ := binding.Bind(k.Func, k.Scheds)
		n, _, _ := circuit.Build(k.Func, k.Scheds, b)
		p, e := Make(n, k.Func, k.Scheds, k.Facts, k.Deps)
		if e != api.OK {
			t.Fatal(seed, e)
		}
		list, _ := Points(k.Func, k.Scheds)
		if !slices.EqualFunc(list, p.Points, Same) {
			t.Fatal("points")
		}
		cyclesSeen += follow(t, k, n, p, seed)
	}
	if cyclesSeen < 500 {
		t.Error(cyclesSeen)
	}
}

// follow simulates a circuit, and returns the number of cycles that were compared.
func follow(t *testing.T, k scheduled.Kernel, n api.Netlist, p Proof, seed uint64) int {
	t.Helper()
	f := k.Func
	env := sample.FuncEnv(seed, f)
	visits, o, _ := irexec.Trace(f, env, 60)
	if o.Status != api.Done {
		return 0
	}
	m, _ := sim.New(n)
	s, _ := m.Start(env)
	at, first, next := p.Points[0], 0, 0
	count := 0
	for {
		i := slices.IndexFunc(p.Points, func(q Point) bool { return Same(q, at) })
		if i < 0 {
			t.Fatal("a point is missing")
		}
		for _, h := range p.Points[i].Holds {
			has := s.Words[h.Cell]
			if n.Cells[h.Cell].Kind == api.CellUnit {
				has = s.Units[h.Cell][h.Slot]
			}
			want := h.Word
			if h.Kind == api.HoldValue {
				// The youngest iteration is in stage Lo; first is the visit of the oldest one that counts.
				v := next - 1 - (h.Stage - at.Lo)
				if v < first {
					continue
				}
				want = irexec.Words(f, visits[v], []int{h.Value})[0]
			}
			if has != want {
				t.Fatal("a Hold is not true", seed, at, h, has, want)
			}
		}
		count++
		ways := Next(f, k.Scheds, at)
		if len(ways) == 0 {
			return count
		}
		way := ways[0]
		if way.Cond >= 0 && (irexec.Words(f, visits[next-1], []int{way.Cond})[0] == 1) != way.Truth {
			way = ways[1]
		}
		if way.Edge >= 0 && !way.Shift || at.Kind == api.CutStart {
			first = next
		}
		if way.Edge >= 0 || at.Kind == api.CutStart {
			next++
		}
		at = way.To
		m.Step(&s, nil)
	}
}

func TestText(t *testing.T) {
	points := []Point{{Kind: 1, Holds: []Hold{{Kind: 1, Cell: 3, Word: ^uint64(0)}, {Kind: 2, Cell: -4, Slot: 5, Value: 6, Stage: 7}}}, {Kind: 2, Block: -1, Cycle: 2, Lo: 3, Hi: 4}}
	s := Format(points)
	if s != "point 1 0 0 0 0\nhold 1 3 0 18446744073709551615 0 0\nhold 2 -4 5 0 6 7\npoint 2 -1 2 3 4\n" {
		t.Error(s)
	}
	if got, e := Parse(s); e != api.OK || !reflect.DeepEqual(got, points) {
		t.Error(got, e)
	}
	if got, e := Parse(""); e != api.OK || len(got) != 0 || Format(nil) != "" {
		t.Error(e)
	}
	for _, bad := range []string{"point 1 0 0 0\n", "point 1 0 0 0 0", "hold 1 3 0 1 0 0\n", "point 1 0 0 0 0\nhold 1 3 0 -1 0 0\n", "point 01 0 0 0 0\n", "point +1 0 0 0 0\n", "point -0 0 0 0 0\n", "point 1 0 0 0 0 \n", "point 1 0 0 0  0\n", "\n", "points 1 0 0 0 0\n", "point 1 0 0 0 0\nhold 1 3 0 18446744073709551616 0 0\n"} {
		if got, e := Parse(bad); e != api.ErrSyntax || got != nil {
			t.Errorf("%q %d", bad, e)
		}
	}
	if _, e := Parse(string(make([]byte, 1<<22+1))); e != api.ErrLimit {
		t.Error(e)
	}
}

func TestErrors(t *testing.T) {
	f, s := loop(1, 2, 0)
	if _, e := Make(api.Netlist{}, f, s, nil, nil); e != api.ErrForm {
		t.Error(e)
	}
	b := &netlist.Builder{}
	b.N.Freeze = b.Const(1, 0)
	b.N.Done = b.N.Freeze
	if _, e := Make(b.N, f, s[:2], nil, nil); e != api.ErrForm {
		t.Error(e)
	}
	if p, e := Make(b.N, f, s, nil, nil); e != api.ErrProof || p.Points != nil {
		t.Error(e)
	}
	f, s = loop(1, 300, 0)
	if _, e := Make(b.N, f, s, nil, nil); e != api.ErrLimit {
		t.Error(e)
	}
}
