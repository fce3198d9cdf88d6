package world_test

import (
	"fmt"
	"slices"
	"strings"
	"testing"

	"culvert/api"
	"culvert/script"
	"culvert/world"
)

func wantRun(t *testing.T, text, history string, line int, e api.Errno) {
	t.Helper()
	got, l, err := world.Run(text)
	if got != history || l != line || err != e {
		t.Errorf("Run(%q) = %q, %d, %d, want %q, %d, %d", short(text), short(got), l, err, short(history), line, e)
	}
}

// P23.8: each error of the text, with its line and an empty history: the steps ahead of it are not done, or not told.
func TestRunErrors(t *testing.T) {
	t.Parallel()
	wantRun(t, strings.Repeat("#", 1048577), "", 0, api.ErrMany)
	wantRun(t, "culvert 64\n"+strings.Repeat("look 0\n", 2001), "", 2002, api.ErrMany)
	wantRun(t, "", "", 0, api.ErrScript)
	wantRun(t, "# so\n\n", "", 0, api.ErrScript)
	wantRun(t, "\nrun 1\n", "", 2, api.ErrScript)
	wantRun(t, "culvert", "", 1, api.ErrWords)
	wantRun(t, "culvert x", "", 1, api.ErrNumber)
	for _, row := range []struct {
		line string
		e    api.Errno
	}{
		{"put 0", api.ErrWord}, {"run", api.ErrWords}, {"run 1 2", api.ErrWords}, {"run x", api.ErrNumber}, {"run 4294967296", api.ErrNumber}, {"run \x01", api.ErrScriptText},
		{"send 0 abc", api.ErrHex}, {"tick 0 5", api.ErrStampForm}, {"commit 0 allow 1 10.0.0.1/8", api.ErrPrefixForm}, {"crash 0 2", api.ErrNumber}, {"arm 0 io", api.ErrWords}, {"commit 0 put 1", api.ErrWord},
	} {
		wantRun(t, "culvert 64\nboot 0 8 64\n"+row.line, "", 3, row.e)
		wantRun(t, "# first\nculvert 64\n\nlook 0\n"+row.line+"\nlook 1\nrun x", "", 5, row.e)
		wantRun(t, "culvert 31\n"+row.line, "", 2, row.e) // ahead of the world
	}
}

// P23.8: sectors that make no world: no history, the line 0.
func TestRunNoWorld(t *testing.T) {
	t.Parallel()
	for _, n := range []string{"0", "1", "31", "8193", "4294967295"} {
		wantRun(t, "culvert "+n, "", 0, api.ErrSectors)
		wantRun(t, "# so\nculvert "+n+"\nboot 0 8 64\n", "", 0, api.ErrSectors)
	}
	for _, n := range []string{"32", "8192"} {
		wantRun(t, "culvert "+n, "", 0, api.OK)
		wantRun(t, "\n \nculvert "+n+" # so\n\n", "", 0, api.OK)
		wantRun(t, "culvert "+n+"\nlook 1\n", "1 node 1 0 0\n", 0, api.OK)
	}
}

// P23.8: the steps' numbers are those of the steps, not of the lines; a step with many events has its number ahead of each; one without an event has no line.
func TestRunNumbers(t *testing.T) {
	t.Parallel()
	wantRun(t, "# a\n\nculvert 64 # b\n\nrun 1\n  boot 0 8 64 # c\n\t\nlook 0\n# d\nrun 2\njunk 0 0A\njunk 1 -\nrun 1", "2 up 0 1\n3 node 0 1 6\n3 up 0 1\n5 sent -1 0 1\n6 sent -1 0 2\n7 dropped 0 210\n7 lost 1\n", 0, api.OK)
	wantRun(t, "culvert 64\nlook 0", "1 node 0 0 0\n", 0, api.OK)
	wantRun(t, "culvert 64\nrun 0\nrun 101\nlook 2", "1 refused 0 2\n2 refused 0 2\n3 refused 2 2\n", 0, api.OK)
	var text, want strings.Builder
	text.WriteString("culvert 32\n")
	for i := range 2000 {
		text.WriteString("look 1\n")
		fmt.Fprintf(&want, "%d node 1 0 0\n", i+1)
	}
	wantRun(t, text.String(), want.String(), 0, api.OK)
	wantRun(t, "culvert 64\n"+strings.Repeat("run 100\n", 2000), "", 0, api.OK)
}

// sayable tells whether a script's text can have a step.
func sayable(op api.Op) bool {
	_, e := script.Print(api.Script{Sectors: 64, Ops: []api.Op{op}})
	return e == api.OK
}

// P23.8, P23.9: the history of a text is the events of a world's steps, shown one by one; and of a plain form's.
func TestRunIsTheSteps(t *testing.T) {
	t.Parallel()
	lines := 0
	for seed := range 40 {
		s := newSampler(uint64(800 + seed))
		x := newBoth(t, s.sectors())
		for _, op := range s.first(t) {
			x.do(op)
		}
		for range 90 {
			x.do(s.op(x.p))
		}
		n := len(x.w.Durable(0)) / 512
		ops := slices.DeleteFunc(slices.Clone(x.past), func(op api.Op) bool { return !sayable(op) })
		text, e := script.Print(api.Script{Sectors: n, Ops: ops})
		if e != api.OK {
			t.Fatal(e)
		}
		want, w := "", world.New(n)
		for i, op := range ops {
			for _, happened := range w.Step(op) {
				want += fmt.Sprintf("%d %s\n", i+1, world.Show(happened))
			}
		}
		lines += strings.Count(want, "\n")
		wantRun(t, text, want, 0, api.OK)
		wantRun(t, strings.ReplaceAll(text, "\n", " # x\n\n")+"#", want, 0, api.OK)
		if want != plainRun(n, ops) {
			t.Errorf("the plain form has another history")
		}
	}
	if lines < 4000 {
		t.Errorf("only %d lines", lines)
	}
}
