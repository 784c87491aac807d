package bank

import (
	"reflect"
	"slices"
	"strings"
	"testing"

	"jacquard/api"
	"jacquard/facts"
	"jacquard/ir"
	"jacquard/irexec"
	"jacquard/sample"
	"jacquard/sample/lowered"
	"jacquard/sample/verify"
)

func arrays() []api.Array {
	var l []api.Array
	for n := 1; n <= 12; n++ {
		l = append(l, api.Array{Len: n}, api.Array{Len: n, Kind: api.Complete})
		for k := 1; k <= n; k++ {
			l = append(l, api.Array{Len: n, Kind: api.Cyclic, Factor: k}, api.Array{Len: n, Kind: api.Blocks, Factor: k})
		}
	}
	return l
}

func TestPlaces(t *testing.T) {
	for _, a := range arrays() {
		banks := Banks(a)
		seen := map[[2]int]bool{}
		for i := range a.Len {
			b, x, ok := Place(a, i)
			if !ok || b < 0 || b >= len(banks) || x < 0 || x >= banks[b] || seen[[2]int{b, x}] {
				t.Fatal(a, i, b, x)
			}
			seen[[2]int{b, x}] = true
			if e, ok := Element(a, b, x); !ok || e != i {
				t.Fatal(a, i, e)
			}
		}
		sum := 0
		for b, n := range banks {
			sum += n
			if e, ok := Element(a, b, n); ok || e != 0 {
				t.Fatal(a, b)
			}
		}
		if sum != a.Len {
			t.Fatal(a, banks)
		}
		for _, i := range []int{-1, a.Len} {
			if b, x, ok := Place(a, i); ok || b != 0 || x != 0 {
				t.Fatal(a, i)
			}
		}
		for lo := range uint64(16) {
			for hi := lo; hi < 16; hi++ {
				x, _ := facts.Tighten(4, api.Fact{Lo: lo, Hi: hi, Least: -8, Most: 7})
				c, ok := Fixed(a, 4, x)
				for i := lo; ok && i <= hi && int(i) < a.Len; i++ {
					if b, _, _ := Place(a, int(i)); b != c {
						t.Fatal(a, lo, hi, c, i)
					}
				}
			}
		}
	}
	if _, ok := Element(api.Array{Len: 3}, -1, 0); ok {
		t.Error("bank -1")
	}
}

func TestExamples(t *testing.T) {
	a := api.Array{Len: 10, Kind: api.Cyclic, Factor: 4}
	if b, x, _ := Place(a, 9); !slices.Equal(Banks(a), []int{3, 3, 2, 2}) || b != 1 || x != 2 {
		t.Error(Banks(a))
	}
	if c, ok := Fixed(a, 8, api.Fact{Zeros: 2, Ones: 1, Hi: 255, Least: -128, Most: 127}); c != 1 || !ok {
		t.Error(c)
	}
	a.Kind = api.Blocks
	if b, x, _ := Place(a, 9); !slices.Equal(Banks(a), []int{3, 3, 3, 1}) || b != 3 || x != 0 {
		t.Error(Banks(a))
	}
	a.Factor = 6
	if len(Banks(a)) != 5 {
		t.Error(Banks(a))
	}
	for _, bad := range []api.Array{{}, {Len: 4097}, {Len: 4, Factor: 1}, {Len: 4, Kind: api.Cyclic}, {Len: 4, Kind: api.Blocks, Factor: 5}, {Len: 100, Kind: api.Cyclic, Factor: 65}, {Len: 65, Kind: api.Complete}, {Len: 4, Kind: 9}} {
		_, _, ok1 := Place(bad, 0)
		_, ok2 := Element(bad, 0, 0)
		_, ok3 := Fixed(bad, 8, facts.Of(8, 0))
		if Banks(bad) != nil || ok1 || ok2 || ok3 {
			t.Error(bad)
		}
	}
	if _, ok := Fixed(api.Array{Len: 4}, 8, api.Fact{Lo: 3}); ok {
		t.Error("a fact that is not valid")
	}
	f := lowered.Source("kernel k(a: u8[64], o: out u8) { for i: u8 in 0 .. 16 { send o(a[i << 2] + a[(i << 2) | 1] + a[(i << 2) | 2] + a[(i << 2) | 3]); } }")
	known := facts.Analyze(f)
	if n := Advise(f, 1, 0, known); n != 4 {
		t.Error(n)
	}
	if Advise(f, 0, 0, known) != 1 || Advise(f, 9, 0, known) != 0 || Advise(f, 1, 1, known) != 0 || Advise(f, 1, 0, nil) != 0 {
		t.Error("Advise")
	}
	f = lowered.Source("kernel k(a: u8[64], x: u8) -> u8 { return a[x] + a[x + 1]; }")
	if n := Advise(f, 0, 0, facts.Analyze(f)); n != 0 {
		t.Error(n)
	}
}

// check compares a function with its division.
func check(t *testing.T, f api.Func, seed uint64) {
	t.Helper()
	known := facts.Analyze(f)
	g, e := Split(f, known)
	if e != api.OK || !ir.Valid(g) || len(g.Blocks) != len(f.Blocks) {
		t.Fatal(e)
	}
	for _, a := range g.Arrays {
		if a.Kind != api.Whole {
			t.Fatal(a)
		}
	}
	for b := range f.Blocks {
		if !ir.Same(api.Func{Blocks: []api.Block{{Params: f.Blocks[b].Params, Term: f.Blocks[b].Term}}}, api.Func{Blocks: []api.Block{{Params: g.Blocks[b].Params, Term: g.Blocks[b].Term}}}) {
			t.Fatal("blocks change")
		}
	}
	for i := range uint64(3) {
		env := sample.FuncEnv(seed*3+i, f)
		inner, e := Scatter(f, env)
		if e != api.OK {
			t.Fatal(e)
		}
		fv, want, _ := irexec.Trace(f, env, 300)
		gv, got, e := irexec.Trace(g, inner, 300)
		if e != api.OK || !slices.Equal(want.Path, got.Path) {
			t.Fatal("path", e)
		}
		for n := range fv {
			if want.Status == api.Starved && n == len(fv)-1 {
				break
			}
			for j, in := range f.Blocks[fv[n].Block].Insts {
				if in.Dest >= 0 && irexec.Words(g, gv[n], []int{in.Dest})[0] != fv[n].Results[j] {
					t.Fatal("a value changes", in)
				}
			}
		}
		got, e = Gather(f, got)
		if e != api.OK || !verify.Outcomes(want, got) {
			t.Fatal("outcome", e)
		}
	}
}

func TestSplit(t *testing.T) {
	for seed := range uint64(200) {
		s := sample.Source(seed, sample.Shape{Loops: true, Nested: true, Streams: seed%2 == 0, Arrays: true, Statements: 6})
		for _, kind := range []string{"cyclic 4", "cyclic 3", "blocks 3", "blocks 2", "complete", "cyclic 1"} {
			r := strings.Replace(s, "u8[8]", "u8[8] "+kind, 1)
			if kind != "cyclic 4" {
				r = strings.Replace(r, "u8[5]", "u8[5] blocks 4", 1)
			}
			f := lowered.Source(r)
			if !ir.Valid(f) {
				t.Fatal(r)
			}
			check(t, f, seed)
		}
	}
	// Indices with few bits, whose differences wrap around.
	for _, w := range []string{"u1", "u2", "u3", "u4"} {
		for _, kind := range []string{"cyclic 4", "cyclic 3", "cyclic 9", "blocks 3", "blocks 4", "blocks 9", "complete"} {
			for seed := range uint64(6) {
				check(t, lowered.Source("kernel k(a: u8[9] "+kind+", x: "+w+", y: "+w+") -> u8 { a[x] = 77; a[3] = 78; return a[y] + a[8] + a[10]; }"), seed)
			}
		}
	}
}

func TestErrors(t *testing.T) {
	f := lowered.Source("kernel k(a: u8[64] complete, b: u8[3] complete) { a[1] = b[2]; }")
	known := facts.Analyze(f)
	if g, e := Split(f, known); e != api.ErrLimit || !ir.Same(g, api.Func{}) {
		t.Error(e)
	}
	if _, e := Split(f, nil); e != api.ErrForm {
		t.Error(e)
	}
	if _, e := Scatter(api.Func{}, api.Env{}); e != api.ErrForm {
		t.Error(e)
	}
	if env, e := Scatter(f, api.Env{}); e != api.ErrArg || !reflect.DeepEqual(env, api.Env{}) {
		t.Error(e)
	}
	if _, e := Gather(api.Func{}, api.Outcome{}); e != api.ErrForm {
		t.Error(e)
	}
	f = lowered.Source("kernel k(b: u8[3] blocks 2) { }")
	for _, o := range []api.Outcome{{}, {Arrays: [][]uint64{{1, 2}}}, {Arrays: [][]uint64{{1, 2}, {3}, {4}}}, {Arrays: [][]uint64{{1}, {2, 3}}}} {
		if r, e := Gather(f, o); e != api.ErrArg || r.Arrays != nil {
			t.Error(o, e)
		}
	}
	if r, e := Gather(f, api.Outcome{Status: api.Done, Arrays: [][]uint64{{1, 2}, {3}}}); e != api.OK || !slices.Equal(r.Arrays[0], []uint64{1, 2, 3}) {
		t.Error(r, e)
	}
}
