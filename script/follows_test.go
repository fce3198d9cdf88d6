package script_test

import (
	"slices"
	"strings"
	"testing"

	"culvert/api"
	"culvert/script"
)

// wantThereAndBack: of a text that Parse reads, Print of the script is a text that Parse reads as the same one, and Print of that is the text once more.
func wantThereAndBack(t *testing.T, text string) {
	t.Helper()
	s, line, e := script.Parse(text)
	if e != api.OK {
		t.Fatalf("Parse(%s): %d, %d", brief(text), line, e)
	}
	printed, e := script.Print(s)
	if e != api.OK {
		t.Fatalf("Print(%s): %d", brief(s), e)
	}
	wantParse(t, printed, s)
	wantPrint(t, s, printed)
	wantForm(t, printed)
}

// wantForm: Print writes no comments, no tabs, no blanks beside, and no line without words; each line has its newline.
func wantForm(t *testing.T, text string) {
	t.Helper()
	if strings.ContainsAny(text, "#\t") || strings.Contains(text, "  ") || strings.Contains(text, " \n") || strings.Contains(text, "\n ") || strings.Contains(text, "\n\n") || !strings.HasPrefix(text, "culvert ") || !strings.HasSuffix(text, "\n") {
		t.Errorf("Print wrote %s", brief(text))
	}
	if strings.ContainsFunc(text, func(r rune) bool { return r != '\n' && (r < ' ' || r > '~') }) {
		t.Errorf("Print wrote %s", brief(text))
	}
}

// P22.6: scripts of all kinds, printed and parsed again; whether Print writes them is asked, not known.
func TestPrintedIsParsed(t *testing.T) {
	s := newSampler(5)
	printed, refused := 0, 0
	for range 20000 {
		x := s.script()
		if len(x.Ops) > 0 && s.IntN(2) == 0 {
			i := s.IntN(len(x.Ops))
			x.Ops[i] = s.spoilOp(x.Ops[i])
		}
		text, e := script.Print(x)
		if e != api.OK {
			refused++
			continue
		}
		printed++
		wantForm(t, text)
		wantParse(t, text, x)
	}
	if printed < 5000 || refused < 2000 {
		t.Errorf("%d were printed, %d refused", printed, refused)
	}
}

// P22.6: one step of each kind at each edge of its numbers.
func TestPrintedIsParsedAtEdges(t *testing.T) {
	for kind := range 16 {
		for _, n := range []int{0, 1, 9, 10, maxNumber - 1, maxNumber} {
			for _, b := range [][]byte{nil, {}, {0}, {0xFF, 0xA0}} {
				full := api.Op{
					Kind: kind, A: n, K: n, At: n, X: n, Link: n, Data: b, Stamp: api.Stamp{Sec: n, Nano: 7}, Params: api.Params{Block: n, Width: n},
					Changes: []api.Change{add(n, b, n), remove(n), setKey(n, b, n), allow(n, pre(eightText)), deny(n, pre(zeros6Text))}, Faults: []api.Fault{{At: n, Kind: 1}, {At: n, Kind: 2}}, Keep: []bool{n == 0, true},
				}
				x := api.Script{Sectors: n, Ops: []api.Op{only(full)}}
				text, e := script.Print(x)
				if want := kind >= 1 && kind <= 14; want != (e == api.OK) {
					t.Fatalf("Print of the kind %d: %d", kind, e)
				} else if want {
					wantParse(t, text, x)
				}
			}
		}
	}
}

// P22.6: texts with noise are read as the same script as without it, and go there and back.
func TestNoise(t *testing.T) {
	s := newSampler(6)
	for range 6000 {
		x := s.script()
		text, e := script.Print(x)
		if e != api.OK {
			t.Fatalf("Print(%s): %d", brief(x), e)
		}
		noisy := s.noisy(text)
		wantParse(t, noisy, x)
		wantThereAndBack(t, noisy)
	}
}

// P22.6: noise changes nothing of a fault but its line's number: so much as lines were put in ahead.
func TestNoiseOfFaults(t *testing.T) {
	s := newSampler(7)
	faults := 0
	for range 6000 {
		text, _ := script.Print(s.script())
		text = s.spoilText(text)
		_, line, e := script.Parse(text)
		if e == api.OK || line == 0 {
			continue
		}
		faults++
		lines := strings.Split(text, "\n")
		var noisy []string
		moved := line
		for i, one := range lines {
			for range s.IntN(3) {
				noisy = append(noisy, s.noise())
				if i < line {
					moved++
				}
			}
			noisy = append(noisy, s.blanks(0)+one+pick(s, "", " ", "\t", "# so", " #\xff"))
		}
		wantFault(t, strings.Join(noisy, "\n"), moved, e)
	}
	if faults < 3000 {
		t.Errorf("%d faults", faults)
	}
}

// P22.6: whatever Parse reads goes there and back: spoilt texts among them.
func TestParsedIsPrinted(t *testing.T) {
	s := newSampler(8)
	read := 0
	for range 20000 {
		text, _ := script.Print(s.script())
		text = s.spoilText(s.noisy(text))
		if _, _, e := script.Parse(text); e == api.OK {
			read++
			wantThereAndBack(t, text)
		}
	}
	if read < 3000 {
		t.Errorf("%d were read", read)
	}
}

// P22.6: but where it would be too long: a text of MaxScript bytes without its last newline.
func TestParsedIsTooLong(t *testing.T) {
	for _, sectors := range []string{"6", "64"} {
		text := "culvert " + sectors + "\ncrash 0 "
		text += strings.Repeat("1", maxScript-len(text))
		s, _, e := script.Parse(text)
		if e != api.OK {
			t.Fatalf("Parse of %d bytes: %d", len(text), e)
		}
		wantNoPrint(t, s, many)
		wantThereAndBack(t, text[:maxScript-1])
		wantPrint(t, api.Script{Sectors: s.Sectors, Ops: []api.Op{{Kind: api.OpCrash, Keep: s.Ops[0].Keep[1:]}}}, text[:maxScript-1]+"\n")
	}
}

// P22.6: changes likewise, and as a commit has them.
func TestChangesThereAndBack(t *testing.T) {
	s := newSampler(9)
	printed, refused := 0, 0
	for range 20000 {
		l := s.changes()
		if len(l) > 0 && s.IntN(3) == 0 {
			i := s.IntN(len(l))
			l[i] = s.spoilChange(l[i])
		}
		text, e := script.PrintChanges(l)
		if e != api.OK {
			refused++
			continue
		}
		printed++
		wantParseChanges(t, text, l...)
		wantLine(t, api.Op{Kind: api.OpCommit, A: 3, Changes: l}, strings.TrimSuffix("commit 3 "+text, " "))
		wantStep(t, "commit 3 "+text, api.Op{Kind: api.OpCommit, A: 3, Changes: l})
		noisy := s.noisyLine(text)
		wantParseChanges(t, noisy, l...)
		if spoilt := s.spoilText(noisy + " "); spoilt != "" {
			got, e := script.ParseChanges(spoilt)
			if e != api.OK {
				continue
			}
			again, e := script.PrintChanges(got)
			if e != api.OK {
				t.Fatalf("PrintChanges(%s): %d", brief(got), e)
			}
			wantParseChanges(t, again, got...)
		}
	}
	if printed < 5000 || refused < 1000 {
		t.Errorf("%d were printed, %d refused", printed, refused)
	}
}

// P22.4: ParseChanges is what Parse makes of a commit's words, of any text without a newline.
func TestChangesOfCommit(t *testing.T) {
	s := newSampler(10)
	for range 20000 {
		text, _ := script.PrintChanges(s.changes())
		if text == "" {
			text = " "
		}
		text = s.spoilText(s.spoilText(text) + " ")
		if strings.Contains(text, "\n") {
			continue
		}
		l, e := script.ParseChanges(text)
		x, line, stepE := script.Parse(head + "commit 1 " + text)
		if e != stepE || line != map[bool]int{false: 2}[e == api.OK] {
			t.Fatalf("ParseChanges(%s): %d, as a step's: %d, %d", brief(text), e, line, stepE)
		}
		if e == api.OK && !slices.EqualFunc(l, x.Ops[0].Changes, sameChange) {
			t.Fatalf("ParseChanges(%s) = %s, as a step's %s", brief(text), brief(l), brief(x))
		}
	}
}
