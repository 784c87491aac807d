package chain

import (
	"math/rand"
	"slices"
	"testing"

	"jacquard/api"
	"jacquard/irtext"
	"jacquard/library"
	"jacquard/sample"
	"jacquard/sample/lowered"
)

func TestExample(t *testing.T) {
	f, line, e := irtext.Parse("func f\nwidths 8 8 8 8\nrets 8\nblock 0 ( 0 1 )\n2 = add 0 1\n3 = add 2 1\nreturn 3\n")
	if e != api.OK {
		t.Fatal(line, e)
	}
	f.Blocks = append(f.Blocks, api.Block{Term: api.Term{Kind: api.Return, Cond: -1}})
	if library.Size(f) != 6 {
		t.Fatal(library.Size(f))
	}
	if arcs, e := Arcs(f, 0, 700); e != api.OK || !slices.Equal(arcs, []api.Arc{{From: 0, To: 1, Lat: 1}}) {
		t.Error(arcs, e)
	}
	if arcs, e := Arcs(f, 0, 710); e != api.OK || len(arcs) != 0 {
		t.Error(arcs, e)
	}
	if _, e := Arcs(f, 0, 500); e != api.ErrPeriod {
		t.Error(e)
	}
	if _, e := Arcs(f, 2, 1); e != api.ErrRange {
		t.Error(e)
	}
	if l := Arrivals(f, 0, []int{0, 0}); !slices.Equal(l, []int{190, 350}) {
		t.Error(l)
	}
	if l := Arrivals(f, 0, []int{0, 1}); !slices.Equal(l, []int{190, 190}) {
		t.Error(l)
	}
	if p := Worst(f, 0, []int{0, 0}); p.Delay != 710 || !slices.Equal(p.Steps, []int{0, 1}) {
		t.Error(p)
	}
	if p := Worst(f, 1, nil); p.Delay != 390 || len(p.Steps) != 0 {
		t.Error(p)
	}
	if !Fits(f, 0, 710, []int{0, 0}) || Fits(f, 0, 709, []int{0, 0}) || Fits(f, 0, 9999, []int{0}) || Fits(f, 9, 9999, nil) || Fits(f, 1, 389, nil) || Arrivals(f, 0, nil) != nil || Worst(f, 0, nil).Delay != 390 {
		t.Error("Fits")
	}
}

func TestSamples(t *testing.T) {
	r := rand.New(rand.NewSource(1))
	for seed := range uint64(200) {
		f := lowered.Func(seed, sample.Shape{Loops: true, Arrays: true, Streams: true, Division: true, Statements: 5})
		for b, block := range f.Blocks {
			period := library.Least(f) + r.Intn(400)
			arcs, e := Arcs(f, b, period)
			if e != api.OK {
				t.Fatal(e)
			}
			// Random starts that respect the links.
			start := make([]int, len(block.Insts))
			at := map[int]int{}
			for i, in := range block.Insts {
				for _, v := range in.Args {
					start[i] = max(start[i], at[v])
				}
				if r.Intn(3) == 0 {
					start[i]++
				}
				at[in.Dest] = start[i]
			}
			holds := true
			for _, a := range arcs {
				holds = holds && start[a.To] >= start[a.From]+1
			}
			if holds != Fits(f, b, period, start) {
				t.Fatal("arcs and Fits differ")
			}
			p := Worst(f, b, start)
			sum := library.Reserve(library.Size(f)).Begin + library.Reserve(library.Size(f)).End
			for k, i := range p.Steps {
				sum += library.Inst(f, block.Insts[i]).Delay
				if k > 0 && (!slices.Contains(block.Insts[i].Args, block.Insts[p.Steps[k-1]].Dest) || start[i] != start[p.Steps[0]]) {
					t.Fatal("no chain")
				}
			}
			if sum != p.Delay {
				t.Fatal("delay")
			}
		}
	}
}
