package sample

import (
	"testing"

	"jacquard/api"
	"jacquard/interp"
	"jacquard/parser"
	"jacquard/types"
)

func TestSource(t *testing.T) {
	ended := 0
	for seed := range uint64(500) {
		s := Source(seed, Shape{Calls: seed%2 == 0, Loops: true, Nested: true, Streams: true, Arrays: true, Division: true, Directives: true, Statements: 8})
		n, line, e := parser.Parse(s)
		if e != api.OK {
			t.Fatal(s, line, e)
		}
		n, line, e = types.Check(n)
		if e != api.OK {
			t.Fatal(s, line, e)
		}
		kernel, _ := types.Kernel(n)
		o, e := interp.Run(n, KernelEnv(seed, kernel), 20000)
		if e != api.OK || o.Status == api.Fuel {
			t.Fatal(s, o.Status, e)
		}
		if o.Status == api.Done {
			ended++
		}
	}
	if ended < 200 {
		t.Error("too few runs end", ended)
	}
}
