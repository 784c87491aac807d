package console_test

import (
	"strconv"
	"strings"
	"testing"

	"jacquard/api"
	"jacquard/compile"
	"jacquard/console"
	"jacquard/irtext"
	"jacquard/nettext"
	"jacquard/proof"
	"jacquard/sample"
)

const adder = "kernel k(a: u8, b: u8) -> u8 { return a + b; }\n"

const pipe = `kernel k(n: u8, t: u16[4], s: in u8, o: out u16) -> u16 {
  var sum: u16 = 0;
  # pipeline
  for i: u8 in 0 .. 4 {
    var v: u8 = recv(s);
    sum = sum + (v as u16) * (n as u16);
    t[i] = sum;
    send o(sum);
  }
  return sum;
}
`

func source(text string) string { return "source\n" + text + "end\n" }

// run returns the answers of a script that is not too long.
func run(t *testing.T, script string) string {
	t.Helper()
	got, e := console.Run(script)
	if e != api.OK {
		t.Fatalf("error %d", e)
	}
	return got
}

// answers compares the answers of a script with lines; a line that ends with * is only the beginning of an answer.
func answers(t *testing.T, script string, lines ...string) {
	t.Helper()
	text := run(t, script)
	got := strings.Split(text, "\n")
	if got[len(got)-1] != "" || len(got)-1 != len(lines) {
		t.Fatalf("%q answers\n%swant %d lines", script, text, len(lines))
	}
	for i, want := range lines {
		beginning, open := strings.CutSuffix(want, "*")
		if got[i] != want && !(open && strings.HasPrefix(got[i], beginning)) {
			t.Errorf("%q: line %d is %q, want %q", script, i, got[i], want)
		}
	}
}

func TestExample(t *testing.T) {
	script := source(adder) + "scalar a 200\nscalar b 100\ncompile\nsimulate\n"
	answers(t, script, "ok", "ok", "ok", "ok blocks 1 cells *", "done", "return 44", "cycles 2 frozen 0")
}

func TestCompileAnswersTheDesign(t *testing.T) {
	d, _, e := compile.Compile(adder, api.Options{Period: 2000, MaxII: 64, Passes: api.PassAll})
	if e != api.OK {
		t.Fatal(e)
	}
	want := "ok blocks " + strconv.Itoa(len(d.Func.Blocks)) + " cells " + strconv.Itoa(len(d.Net.Cells)) + " delay " + strconv.Itoa(d.Delay) + " area " + strconv.Itoa(d.Area)
	answers(t, source(adder)+"compile", "ok", want)
	first, _ := irtext.Print(d.First)
	last, _ := irtext.Print(d.Func)
	net, _ := nettext.Format(d.Net)
	for what, text := range map[string]string{"source": adder, "first": first, "ir": last, "netlist": net, "proof": proof.Format(d.Proof.Points)} {
		got := run(t, source(adder)+"compile\nshow "+what)
		_, got, _ = strings.Cut(got, "\n")
		_, got, _ = strings.Cut(got, "\n")
		if got != text+"end\n" {
			t.Errorf("show %s: %q, want %q", what, got, text)
		}
	}
}

func TestLines(t *testing.T) {
	answers(t, "")
	answers(t, "\n\n")
	answers(t, "# period 5\n  \t\r\n#x\nperiod 5", "ok")
	answers(t, " \tperiod\t\t5 \r\n", "ok")
	answers(t, "period 5\n\nperiod x\n", "ok", "error 22")
	answers(t, "source\nperiod 5\n  end  \t\nshow source\n", "ok", "period 5", "end")
	answers(t, "source\n# a\n\nend end\nshow source", "ok")
	answers(t, "source", "ok")
	answers(t, "show source", "end")
	answers(t, "end", "error 22")
	answers(t, "Period 5", "error 22")
}

func TestWrongWords(t *testing.T) {
	wrong := []string{
		"frob", "source x", "period", "period 1 2", "period x", "period 1000001", "period -1", "period +1", "period 1_0", "period 0x1",
		"period 18446744073709551616", "interval", "interval y", "passes", "passes 1 2", "limit mul", "limit add 1", "limit mul x", "limit  1", "limit mul 1 1",
		"scalar a", "scalar", "scalar a 1 2", "scalar a b", "scalar a 18446744073709551616", "array", "array t 1 x", "input", "input s -1",
		"stall s", "stall", "stall s 012", "stall s 0 1", "stall s --", "compile now", "check 1", "loops 1", "interpret 1", "simulate 5", "cycles 1",
		"profile 1", "compare 1", "explore", "explore x", "explore 1 1000001", "show", "show me", "show source ir",
	}
	for _, line := range wrong {
		answers(t, line, "error 22")
		answers(t, line+"\nperiod 5", "error 22", "ok")
	}
	for _, line := range []string{"period 1000000", "period 0", "period 0000000000000000000000000005", "interval 0", "passes 1000000", "limit srem 0", "limit udiv 1000000",
		"scalar a 18446744073709551615", "array t", "input s 1 2 3", "stall s -", "stall s 0110"} {
		answers(t, line, "ok")
	}
}

func TestWrongCommandsChangeNothing(t *testing.T) {
	before := source(adder) + "scalar a 5\nscalar b 6\ncompile\n"
	for _, line := range []string{"scalar a x", "scalar a 9 9", "period x", "limit mul", "source x", "interval", "passes 1000001"} {
		answers(t, before+line+"\nsimulate", "ok", "ok", "ok", "ok *", "error 22", "done", "return 11", "cycles 2 frozen 0")
	}
	answers(t, "array t 1 2\n"+source("kernel k(t: u8[2]) { }\n")+"array t 3 x\ninterpret", "ok", "ok", "error 22", "done", "array t 1 2")
}

func TestDesignIsNeeded(t *testing.T) {
	for _, line := range []string{"check", "loops", "simulate", "cycles", "profile", "compare", "explore 1", "show first", "show ir", "show netlist", "show proof"} {
		answers(t, line, "error 7")
		answers(t, source(adder)+line, "ok", "error 7")
		for _, change := range []string{"source\nend", "period 2000", "interval 64", "passes 1", "limit mul 1"} {
			answers(t, source(adder)+"compile\n"+change+"\n"+line, "ok", "ok *", "ok", "error 7")
		}
	}
	answers(t, source(adder)+"compile\nscalar a 1\narray t 1\ninput s 1\nstall s 1\ncheck", "ok", "ok *", "ok", "ok", "ok", "ok", "ok")
}

func TestErrorsOfLayers(t *testing.T) {
	answers(t, source("kernel k( {\n}\n")+"compile\ninterpret", "ok", "error 4 line 1", "error 4 line 1")
	answers(t, source("kernel k() -> u8 {\n  return\n  x; }\n")+"compile\ninterpret", "ok", "error 9 line 3", "error 9 line 3")
	answers(t, source(adder)+"period 1\ncompile", "ok", "ok", "error *")
	answers(t, source(adder)+"interval 0\ncompile", "ok", "ok", "error *")
	answers(t, source(adder)+"scalar a 256\ncompile\nsimulate\ninterpret\ncycles\nprofile\ncompare\nexplore 1", "ok", "ok", "ok *", "error 1", "error 1", "error 1", "error 1", "error 1", "error 1")
	long := "# " + strings.Repeat("x", api.MaxText-2)
	answers(t, long)
	if got, e := console.Run(long + " "); got != "" || e != api.ErrLimit {
		t.Errorf("too long: %q, %d", got, e)
	}
}

func TestOutcome(t *testing.T) {
	before := source(pipe) + "compile\nscalar n 3\n"
	zeros := "array t 0 0 0 0"
	answers(t, before+"interpret", "ok", "ok *", "ok", "starved", zeros, "output o")
	full := []string{"done", "return 30", "array t 3 9 18 30", "output o 3 9 18 30"}
	want := append([]string{"ok", "ok *", "ok", "ok"}, append(full, append(full, "cycles *")...)...)
	answers(t, before+"input s 1 2 3 4 5\ninterpret\nsimulate", want...)
	answers(t, before+"array t 7 7 7 7\ninput s 1\ninterpret", "ok", "ok *", "ok", "ok", "ok", "starved", "array t 3 7 7 7", "output o 3")
	answers(t, source("kernel k() { while true { } }\n")+"interpret\ncompile\nsimulate", "ok", "fuel", "ok *", "fuel", "cycles 20000 frozen *")
}

func TestPipeline(t *testing.T) {
	before := source(pipe) + "compile\nscalar n 3\ninput s 1 2 3 4\n"
	ok := []string{"ok", "ok *", "ok", "ok"}
	answers(t, before+"loops", append(ok, "loop line 3 asked 1 interval 1 depth *", "end")...)
	answers(t, before+"check", append(ok, "ok")...)
	answers(t, before+"compare", append(ok, "none")...)
	answers(t, before+"cycles", append(ok, "cycles *")...)
	text := run(t, before+"stall s 0001\nstall o 01\nsimulate\nprofile\ncycles\nstall s -\nstall o -\nsimulate\nexplore 1 2")
	lines := strings.Split(text, "\n")[6:]
	if lines[4] == "cycles 0" || strings.HasSuffix(lines[4], "frozen 0") {
		t.Errorf("a closed stream does not freeze: %q", text)
	}
	if !strings.Contains(text, "\nblock 0 visits 1 cycles ") || !strings.Contains(text, "\nstall 0 first ") || !strings.Contains(text, "\npoint ") {
		t.Errorf("profile and explore: %q", text)
	}
	if strings.Count(text, lines[4]+"\n") != 2 || !strings.Contains(text, " frozen 0\n") {
		t.Errorf("simulate and profile count other cycles: %q", text)
	}
}

func TestLimits(t *testing.T) {
	text := "kernel k(s: in u16, o: out u16) { # pipeline\n while true { send o(recv(s) * recv(s)); } }\n"
	free := run(t, source(text)+"compile\nloops")
	answers(t, source(text)+"limit mul 0\ncompile", "ok", "ok", "error *")
	if !strings.Contains(free, "asked 1 interval 2 ") || !strings.Contains(free, "bound 2 proved 1\n") {
		t.Errorf("loops: %q", free)
	}
}

func TestAnswersBeforeDoNotDependOnWhatFollows(t *testing.T) {
	script := source(pipe) + "compile\nscalar n 3\ninput s 1 2 3 4\nfrob\nsimulate\nstall s 01\nprofile\nperiod 900\ncheck\ncompile\nloops\n# x\ncompare\nshow ir"
	whole := run(t, script)
	lines := strings.SplitAfter(script, "\n")
	for n := strings.Count(source(pipe), "\n"); n <= len(lines); n++ {
		if got := run(t, strings.Join(lines[:n], "")); !strings.HasPrefix(whole, got) {
			t.Fatalf("the first %d lines answer %q", n, got)
		}
	}
}

func TestInterpretAndSimulateAgree(t *testing.T) {
	done := 0
	for seed := uint64(1); seed <= 25; seed++ {
		text := sample.Source(seed, sample.Shape{Loops: true, Arrays: true, Statements: 4})
		before := run(t, source(text)+"compile")
		first := run(t, source(text)+"compile\ninterpret")[len(before):]
		second := run(t, source(text)+"compile\nsimulate")[len(before):]
		if !strings.HasPrefix(first, "done\n") || !strings.HasPrefix(second, "done\n") {
			continue
		}
		done++
		if cycles, ok := strings.CutPrefix(second, first); !ok || !strings.HasPrefix(cycles, "cycles ") {
			t.Errorf("seed %d: %q and %q", seed, first, second)
		}
	}
	if done == 0 {
		t.Error("no kernel is done")
	}
}
