package diffcons

import (
	"math/rand"
	"slices"
	"testing"
)

func arc(from, to, lat, dist int) Arc { return Arc{From: from, To: to, Lat: lat, Dist: dist} }

func TestExample(t *testing.T) {
	arcs := []Arc{arc(0, 1, 2, 0), arc(1, 2, 3, 0), arc(2, 0, 1, 2), arc(7, 0, 99, 0)}
	if s, c := Earliest(3, arcs, 3); c != nil || !slices.Equal(s, []int{0, 2, 5}) {
		t.Error(s, c)
	}
	s, c := Earliest(3, arcs, 2)
	if w, ok := Positive(3, arcs, 2, c); s != nil || w != 2 || !ok {
		t.Error(s, c)
	}
	if s, c := Latest(3, arcs, 3, []int{9, 9, 9}); c != nil || !slices.Equal(s, []int{4, 6, 9}) {
		t.Error(s, c)
	}
	s, c = Latest(3, arcs, 2, []int{9, 9, 9})
	if w, ok := Positive(3, arcs, 2, c); s != nil || w != 2 || !ok {
		t.Error(s, c)
	}
	if Violated(3, arcs, 3, []int{0, 2, 5}) != -1 || Violated(3, arcs, 3, []int{0, 2, 4}) != 1 || Violated(3, arcs, 3, nil) != 0 || Violated(0, arcs, 0, nil) != -1 {
		t.Error("Violated")
	}
	for _, c := range [][]int{nil, {0}, {0, 1}, {3}, {9}, {-1}, {0, 1, 2, 0, 1, 2}, {1, 0, 2}} {
		if w, ok := Positive(3, arcs, 0, c); w != 0 || ok {
			t.Error(c, w)
		}
	}
	if w, ok := Positive(3, arcs, 4, []int{0, 1, 2}); w != -2 || ok {
		t.Error(w)
	}
	if Weight(arc(0, 0, 1<<30, -1<<30), 999) != 1<<20+256<<20 || Weight(arc(0, 0, 5, 1), -3) != 5 {
		t.Error("limits")
	}
	if s, c := Earliest(1, []Arc{arc(0, 0, 1, 0)}, 0); s != nil || !slices.Equal(c, []int{0}) {
		t.Error(s, c)
	}
	if s, _ := After(3, nil, 0, []int{-5, 1 << 40}); !slices.Equal(s, []int{-5, 1 << 30, 0}) {
		t.Error(s)
	}
	if s, c := Earliest(-1, arcs, 0); len(s) != 0 || c != nil {
		t.Error(s, c)
	}
	if s, _ := Earliest(1<<30, nil, 0); len(s) != 8192 {
		t.Error(len(s))
	}
}

func TestRandom(t *testing.T) {
	r := rand.New(rand.NewSource(1))
	cycles := 0
	for range 20000 {
		n := 1 + r.Intn(5)
		var arcs []Arc
		for range r.Intn(9) {
			arcs = append(arcs, arc(r.Intn(n+1), r.Intn(n+1), r.Intn(7)-3, r.Intn(4)-1))
		}
		ii := r.Intn(5)
		lower := make([]int, r.Intn(n+1))
		for i := range lower {
			lower[i] = r.Intn(9) - 4
		}
		s, c := After(n, arcs, ii, lower)
		l, d := Latest(n, arcs, ii, lower)
		if (c == nil) != (d == nil) {
			t.Fatal(arcs)
		}
		if c != nil {
			cycles++
			_, ok1 := Positive(n, arcs, ii, c)
			_, ok2 := Positive(n, arcs, ii, d)
			if !ok1 || !ok2 || s != nil || l != nil {
				t.Fatal(arcs, c, d)
			}
			continue
		}
		if Violated(n, arcs, ii, s) >= 0 || Violated(n, arcs, ii, l) >= 0 {
			t.Fatal(arcs, s, l)
		}
		for v := range n {
			b := bound(lower, v)
			if s[v] < b || l[v] > b {
				t.Fatal("bounds")
			}
			// Every element is justified by a bound or an arc.
			ok1, ok2 := s[v] == b, l[v] == b
			for _, a := range arcs {
				if counts(n, a) && a.From != a.To {
					ok1 = ok1 || a.To == v && s[v] == s[a.From]+Weight(a, ii)
					ok2 = ok2 || a.From == v && l[v] == l[a.To]-Weight(a, ii)
				}
			}
			if !ok1 || !ok2 {
				t.Fatal("not the least or greatest", arcs, s, l)
			}
		}
	}
	if cycles < 1000 {
		t.Error(cycles)
	}
}
