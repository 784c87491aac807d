package schedcheck

import (
	"math/rand"
	"slices"
	"testing"

	"jacquard/api"
)

func example() Flow {
	return Flow{Insts: 1, Loop: true, Arcs: []api.Arc{{From: 1, To: 0}, {From: 1, To: 2}, {From: 0, To: 2, Lat: 2}}, Res: []api.Resource{{Kind: 1, Count: 1}}, Needs: []api.Need{{Busy: 2}}}
}

func TestExample(t *testing.T) {
	f := example()
	s := Sched{II: 2, Depth: 2, Start: []int{0}, Unit: []int{0}}
	if Check(f, s) != api.OK || !slices.Equal(Usage(f, s)[0], []int{1, 1}) || !slices.Equal(Times(f, s), []int{0, 0, 2}) || !slices.Equal(Slack(f, s), []int{0, 2, 0}) {
		t.Error(Check(f, s), Usage(f, s), Times(f, s), Slack(f, s))
	}
	s.II = 1
	if Check(f, s) != api.ErrIllegal || !slices.Equal(Clashes(f, s), [][2]int{{0, 0}}) || !slices.Equal(Usage(f, s)[0], []int{2}) {
		t.Error(Clashes(f, s), Usage(f, s))
	}
	s.II, s.Depth = 2, 1
	if Check(f, s) != api.ErrIllegal || !slices.Equal(Late(f, s), []int{2}) {
		t.Error(Late(f, s))
	}
	s = Sched{II: 3, Depth: 2, Start: []int{0}, Unit: []int{0}}
	if !Fits(f, s) || len(Late(f, s)) != 0 || len(Clashes(f, s)) != 0 || Check(f, s) != api.ErrIllegal {
		t.Error("depth below the interval")
	}
}

func TestForm(t *testing.T) {
	f := example()
	for i, s := range []Sched{
		{}, {II: 0, Depth: 2, Start: []int{0}, Unit: []int{0}}, {II: 257, Depth: 300, Start: []int{0}, Unit: []int{0}}, {II: 2, Depth: 0, Start: []int{0}, Unit: []int{0}}, {II: 2, Depth: 4097, Start: []int{0}, Unit: []int{0}}, {II: 2, Depth: 2, Start: []int{-1}, Unit: []int{0}}, {II: 2, Depth: 2, Start: []int{4097}, Unit: []int{0}},
		{II: 2, Depth: 2, Start: []int{0}, Unit: []int{1}}, {II: 2, Depth: 2, Start: []int{0}, Unit: []int{-1}}, {II: 2, Depth: 2, Start: []int{0}, Unit: []int{0}, Params: []int{0}}, {II: 2, Depth: 2, Start: []int{0, 0}, Unit: []int{0}},
	} {
		if Fits(f, s) || Check(f, s) != api.ErrForm || Times(f, s) != nil || Late(f, s) != nil || Slack(f, s) != nil || Clashes(f, s) != nil || Usage(f, s) != nil {
			t.Error(i)
		}
	}
	f.Loop = false
	f.Params = 1
	f.Arcs = []api.Arc{{From: 2, To: 0}, {From: 2, To: 1}, {From: 2, To: 3}, {From: 0, To: 3, Lat: 2}, {From: 1, To: 3}}
	s := Sched{Depth: 3, Start: []int{0}, Unit: []int{0}, Params: []int{1}}
	if Check(f, s) != api.ErrIllegal {
		t.Error("a parameter arrives late")
	}
	s.Params[0] = 0
	if Check(f, s) != api.OK || !slices.Equal(Usage(f, s)[0], []int{1, 1, 0}) {
		t.Error(Usage(f, s))
	}
	f.Needs[0].Busy = 3
	if Check(f, s) != api.ErrForm {
		t.Error("the flow is not valid")
	}
}

func TestClashes(t *testing.T) {
	r := rand.New(rand.NewSource(1))
	for range 5000 {
		n := 1 + r.Intn(4)
		f := Flow{Insts: n, Loop: r.Intn(2) == 0, Res: []api.Resource{{Kind: 1, Count: 2}}}
		s := Sched{Depth: 20}
		if f.Loop {
			s.II = 1 + r.Intn(6)
		}
		for i := range n {
			f.Arcs = append(f.Arcs, api.Arc{From: n, To: i})
			f.Needs = append(f.Needs, api.Need{Busy: 1 + r.Intn(4)})
			s.Start = append(s.Start, r.Intn(9))
			s.Unit = append(s.Unit, r.Intn(2))
		}
		f.Arcs = append(f.Arcs, api.Arc{From: n, To: n + 1})
		for i := range n {
			f.Arcs = append(f.Arcs, api.Arc{From: i, To: n + 1, Lat: f.Needs[i].Busy})
		}
		cycles := func(i int) map[int]bool {
			m := map[int]bool{}
			for b := range f.Needs[i].Busy {
				c := s.Start[i] + b
				if f.Loop {
					c %= s.II
				}
				m[c] = true
			}
			return m
		}
		var want [][2]int
		for i := range n {
			if f.Loop && f.Needs[i].Busy > s.II {
				want = append(want, [2]int{i, i})
			}
			for k := i + 1; k < n; k++ {
				common := false
				for c := range cycles(i) {
					common = common || cycles(k)[c]
				}
				if common && s.Unit[i] == s.Unit[k] {
					want = append(want, [2]int{i, k})
				}
			}
		}
		if got := Clashes(f, s); !slices.Equal(got, want) {
			t.Fatal(f, s, got, want)
		}
		if Check(f, s) == api.OK {
			for _, u := range Usage(f, s)[0] {
				if u > 2 {
					t.Fatal("usage")
				}
			}
		}
	}
}
