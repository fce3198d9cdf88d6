package script_test

import (
	"testing"

	"culvert/api"
	"culvert/script"
)

// wantAsPlain holds Parse of a text, and what it leads to, against the plain form; its error.
func wantAsPlain(t *testing.T, text string) api.Errno {
	s, line, e := script.Parse(text)
	want, wantLine, wantE := plainParse(text)
	if e != wantE || line != wantLine || !same(s, want) {
		t.Helper()
		t.Fatalf("Parse(%s) = %s, %d, %d, want %s, %d, %d", brief(text), brief(s), line, e, brief(want), wantLine, wantE)
	}
	return e
}

func wantChangesAsPlain(t *testing.T, text string) api.Errno {
	l, e := script.ParseChanges(text)
	want, wantE := plainParseChanges(text)
	if e != wantE || !sameChanges(l, want) {
		t.Helper()
		t.Fatalf("ParseChanges(%s) = %s, %d, want %s, %d", brief(text), brief(l), e, brief(want), wantE)
	}
	return e
}

func wantPrintAsPlain(t *testing.T, s api.Script) api.Errno {
	text, e := script.Print(s)
	want, wantE := plainPrint(s)
	if e != wantE || text != want {
		t.Helper()
		t.Fatalf("Print(%s) = %s, %d, want %s, %d", brief(s), brief(text), e, brief(want), wantE)
	}
	return e
}

func wantPrintChangesAsPlain(t *testing.T, l []api.Change) api.Errno {
	text, e := script.PrintChanges(l)
	want, wantE := plainPrintChanges(l)
	if e != wantE || text != want {
		t.Helper()
		t.Fatalf("PrintChanges(%s) = %s, %d, want %s, %d", brief(l), brief(text), e, brief(want), wantE)
	}
	return e
}

// eachRow does something with all rows of so many of the texts.
func eachRow(texts []string, n int, do func(string)) {
	if n == 0 {
		do("")
		return
	}
	for _, text := range texts {
		eachRow(texts, n-1, func(rest string) { do(text + rest) })
	}
}

// eachLine: with a space ahead of each.
func eachLine(words []string, n int, do func(string)) {
	var spaced []string
	for _, word := range words {
		spaced = append(spaced, " "+word)
	}
	eachRow(spaced, n, do)
}

// P22.1: each name behind the first line, with all rows of up to three words of each kind.
func TestAllLines(t *testing.T) {
	names := []string{"culvert", "add", "0"}
	for _, r := range stepRows {
		names = append(names, r.name)
	}
	words := []string{"1", "01", "-", "0A", "abc", "4294967296", ",", "remove", "io", "2.000000003", eightText, "\x7f"}
	seen := map[api.Errno]int{}
	for _, name := range names {
		for n := range 4 {
			eachLine(words, n, func(rest string) { seen[wantAsPlain(t, head+name+rest)]++ })
		}
	}
	for _, e := range []api.Errno{api.OK, badWord, badNumber, badText, badHex, badWords, badStamp} {
		if seen[e] == 0 {
			t.Errorf("the error %d was never told", e)
		}
	}
}

// P22.1, P22.4: all rows of up to five words of changes, and of six where they are fewer.
func TestAllChanges(t *testing.T) {
	seen := map[api.Errno]int{}
	both := func(rest string) {
		seen[wantChangesAsPlain(t, rest)]++
		wantAsPlain(t, head+"commit 1"+rest)
	}
	for n := range 6 {
		eachLine([]string{"add", "remove", "allow", ",", "1", "0A", "x", eightText}, n, both)
	}
	eachLine([]string{"remove", "deny", ",", "1", eightText}, 6, both)
	eachLine([]string{"remove", ",", "1"}, 8, both)
	for _, e := range []api.Errno{api.OK, badWord, badNumber, badHex, badWords, badPrefix} {
		if seen[e] == 0 {
			t.Errorf("the error %d was never told", e)
		}
	}
}

// P22.1: all rows of up to six words of faults.
func TestAllFaults(t *testing.T) {
	for n := range 7 {
		eachLine([]string{"power", "io", "1", "x"}, n, func(rest string) { wantAsPlain(t, head+"arm"+rest) })
	}
}

// P22.1: all texts of up to six of these bytes, behind nothing, behind the first line, and as changes.
func TestAllTexts(t *testing.T) {
	signs := []string{"\n", " ", "\t", "#", "0", ",", "\xc3"}
	for n := range 7 {
		eachRow(signs, n, func(text string) {
			wantAsPlain(t, text)
			wantAsPlain(t, "culvert 1"+text+"0")
			wantChangesAsPlain(t, text)
			wantChangesAsPlain(t, "remove 1"+text+"remove 1")
		})
	}
}

// P22.1 to P22.5: sampled scripts and changes, printed, with noise in them, and spoilt once or more.
func TestSamples(t *testing.T) {
	s := newSampler(1)
	seen := map[api.Errno]int{}
	for range 6000 {
		x := s.script()
		wantPrintAsPlain(t, x)
		text, e := plainPrint(x)
		if e != api.OK {
			t.Fatalf("Print(%s): %d", brief(x), e)
		}
		wantParse(t, text, x)
		noisy := s.noisy(text)
		wantParse(t, noisy, x)
		for range 3 {
			text, noisy = s.spoilText(text), s.spoilText(noisy)
			seen[wantAsPlain(t, text)]++
			seen[wantAsPlain(t, noisy)]++
			if text == "" || noisy == "" {
				break
			}
		}
	}
	for _, e := range []api.Errno{api.OK, badWord, badNumber, badText, badHex, badWords, noScript, badStamp, badPrefix} {
		if seen[e] < 20 {
			t.Errorf("the error %d was told %d times", e, seen[e])
		}
	}
}

// P22.3: sampled scripts with steps that are spoilt once or more.
func TestSamplesOfPrint(t *testing.T) {
	s := newSampler(2)
	seen := map[api.Errno]int{}
	for range 20000 {
		x := s.script()
		for range 1 + s.IntN(3) {
			if len(x.Ops) > 0 {
				i := s.IntN(len(x.Ops))
				x.Ops[i] = s.spoilOp(x.Ops[i])
			}
		}
		if s.IntN(20) == 0 {
			x.Sectors = pick(s, outside...)
		}
		seen[wantPrintAsPlain(t, x)]++
	}
	for _, e := range []api.Errno{api.OK, badWord, badNumber, spare, badStamp, badPrefix} {
		if seen[e] < 20 {
			t.Errorf("the error %d was told %d times", e, seen[e])
		}
	}
}

// P22.4, P22.5: sampled changes, and such that are spoilt.
func TestSamplesOfChanges(t *testing.T) {
	s := newSampler(3)
	printed, parsed := map[api.Errno]int{}, map[api.Errno]int{}
	for range 20000 {
		l := s.changes()
		wantPrintChangesAsPlain(t, l)
		text, _ := plainPrintChanges(l)
		wantParseChanges(t, text, l...)
		if len(l) == 0 {
			continue
		}
		parsed[wantChangesAsPlain(t, s.spoilText(text))]++
		i := s.IntN(len(l))
		l[i] = s.spoilChange(l[i])
		printed[wantPrintChangesAsPlain(t, l)]++
	}
	for _, e := range []api.Errno{api.OK, badWord, badNumber, badText, badHex, badWords, badPrefix} {
		if parsed[e] < 20 {
			t.Errorf("the error %d of ParseChanges was told %d times", e, parsed[e])
		}
	}
	for _, e := range []api.Errno{api.OK, badWord, badNumber, spare, badPrefix} {
		if printed[e] < 20 {
			t.Errorf("the error %d of PrintChanges was told %d times", e, printed[e])
		}
	}
}

// P0.4: an answer hangs on nothing but the arguments: not on calls ahead, not on such at the same time.
func TestNothingElse(t *testing.T) {
	s := newSampler(4)
	for range 20 {
		x := s.script()
		text, _ := plainPrint(x)
		bad := s.spoilText(text)
		_, wantLine, wantE := plainParse(bad)
		done := make(chan bool)
		for i := range 20 {
			go func() {
				_, line, e := script.Parse(bad)
				got, _, _ := script.Parse(text)
				again, _ := script.Print(x)
				if i%2 == 0 {
					script.PrintChanges([]api.Change{{}})
					script.ParseChanges("remove x")
				}
				done <- line == wantLine && e == wantE && same(got, x) && again == text
			}()
		}
		for range 20 {
			if !<-done {
				t.Errorf("Parse and Print of %s answer otherwise at the same time", brief(text))
			}
		}
	}
}
