package script_test

import (
	"bytes"
	"fmt"
	"slices"
	"strings"
	"testing"

	"culvert/api"
	"culvert/prefix"
	"culvert/script"
)

const (
	head = "culvert 64\n"

	maxNumber = 4294967295
	maxScript = 1048576
	maxSteps  = 2000

	many       = api.ErrMany
	badWord    = api.ErrWord
	badNumber  = api.ErrNumber
	badText    = api.ErrScriptText
	badHex     = api.ErrHex
	badWords   = api.ErrWords
	noScript   = api.ErrScript
	spare      = api.ErrSpare
	badStamp   = api.ErrStampForm
	badPrefix  = api.ErrPrefixForm
	eightText  = "10.0.0.0/8"
	zeros6Text = "0000:0000:0000:0000:0000:0000:0000:0000/0"
)

// pre is the prefix of a text.
func pre(text string) api.Prefix {
	p, e := prefix.Parse(text)
	if e != api.OK {
		panic(text)
	}
	return p
}

// same: nil and the empty list are the same.
func sameChange(a, b api.Change) bool {
	return a.Kind == b.Kind && a.Link == b.Link && a.Side == b.Side && bytes.Equal(a.Key, b.Key) && a.Prefix == b.Prefix
}

func sameChanges(a, b []api.Change) bool { return slices.EqualFunc(a, b, sameChange) }

func sameOp(a, b api.Op) bool {
	return a.Kind == b.Kind && a.A == b.A && a.K == b.K && a.At == b.At && a.X == b.X && a.Link == b.Link &&
		bytes.Equal(a.Data, b.Data) && a.Stamp == b.Stamp && a.Params == b.Params &&
		sameChanges(a.Changes, b.Changes) && slices.Equal(a.Faults, b.Faults) && slices.Equal(a.Keep, b.Keep)
}

func same(a, b api.Script) bool {
	return a.Sectors == b.Sectors && slices.EqualFunc(a.Ops, b.Ops, sameOp)
}

// brief is something as a text that is not too long.
func brief(x any) string {
	text := fmt.Sprintf("%+v", x)
	if t, ok := x.(string); ok {
		text = fmt.Sprintf("%q", t)
	}
	if len(text) > 600 {
		return fmt.Sprintf("%s .. %s (%d bytes)", text[:400], text[len(text)-100:], len(text))
	}
	return text
}

func wantParse(t *testing.T, text string, want api.Script) {
	s, line, e := script.Parse(text)
	if e != api.OK || line != 0 || !same(s, want) {
		t.Helper()
		t.Fatalf("Parse(%s) = %s, %d, %d, want %s", brief(text), brief(s), line, e, brief(want))
	}
}

// wantFault: beside an error there is the empty script.
func wantFault(t *testing.T, text string, wantLine int, want api.Errno) {
	s, line, e := script.Parse(text)
	if e != want || line != wantLine || !same(s, api.Script{}) {
		t.Helper()
		t.Errorf("Parse(%s) = %s, %d, %d, want the line %d and %d", brief(text), brief(s), line, e, wantLine, want)
	}
}

// wantStep: a line as the only step of a script.
func wantStep(t *testing.T, line string, want api.Op) {
	t.Helper()
	wantParse(t, head+line, api.Script{Sectors: 64, Ops: []api.Op{want}})
}

func wantStepFault(t *testing.T, line string, want api.Errno) {
	t.Helper()
	wantFault(t, head+line, 2, want)
}

func wantPrint(t *testing.T, s api.Script, want string) {
	text, e := script.Print(s)
	if e != api.OK || text != want {
		t.Helper()
		t.Fatalf("Print(%s) = %s, %d, want %s", brief(s), brief(text), e, brief(want))
	}
}

// wantNoPrint: beside an error there is the empty text.
func wantNoPrint(t *testing.T, s api.Script, want api.Errno) {
	text, e := script.Print(s)
	if e != want || text != "" {
		t.Helper()
		t.Errorf("Print(%s) = %s, %d, want %d", brief(s), brief(text), e, want)
	}
}

func of(ops ...api.Op) api.Script { return api.Script{Sectors: 64, Ops: ops} }

func wantLine(t *testing.T, o api.Op, line string) {
	t.Helper()
	wantPrint(t, of(o), head+line+"\n")
}

func wantNoLine(t *testing.T, o api.Op, want api.Errno) {
	t.Helper()
	wantNoPrint(t, of(o), want)
}

func wantParseChanges(t *testing.T, text string, want ...api.Change) {
	l, e := script.ParseChanges(text)
	if e != api.OK || !sameChanges(l, want) {
		t.Helper()
		t.Fatalf("ParseChanges(%s) = %s, %d, want %s", brief(text), brief(l), e, brief(want))
	}
}

func wantChangesFault(t *testing.T, text string, want api.Errno) {
	l, e := script.ParseChanges(text)
	if e != want || len(l) > 0 {
		t.Helper()
		t.Errorf("ParseChanges(%s) = %s, %d, want %d", brief(text), brief(l), e, want)
	}
}

// wantChanges: by ParseChanges, and behind a commit.
func wantChanges(t *testing.T, text string, want ...api.Change) {
	t.Helper()
	wantParseChanges(t, text, want...)
	wantStep(t, "commit 7 "+text, api.Op{Kind: api.OpCommit, A: 7, Changes: want})
}

func wantNoChanges(t *testing.T, text string, want api.Errno) {
	t.Helper()
	wantChangesFault(t, text, want)
	wantStepFault(t, "commit 7 "+text, want)
}

// wantPrintChanges: by PrintChanges, and behind a commit.
func wantPrintChanges(t *testing.T, want string, l ...api.Change) {
	t.Helper()
	text, e := script.PrintChanges(l)
	if e != api.OK || text != want {
		t.Fatalf("PrintChanges(%s) = %s, %d, want %s", brief(l), brief(text), e, brief(want))
	}
	line := "commit 7 " + want
	wantLine(t, api.Op{Kind: api.OpCommit, A: 7, Changes: l}, strings.TrimSuffix(line, " "))
}

func wantNoPrintChanges(t *testing.T, want api.Errno, l ...api.Change) {
	t.Helper()
	text, e := script.PrintChanges(l)
	if e != want || text != "" {
		t.Errorf("PrintChanges(%s) = %s, %d, want %d", brief(l), brief(text), e, want)
	}
	wantNoLine(t, api.Op{Kind: api.OpCommit, A: 7, Changes: l}, want)
}

func add(link int, key []byte, side int) api.Change {
	return api.Change{Kind: api.ChAdd, Link: link, Key: key, Side: side}
}

func remove(link int) api.Change { return api.Change{Kind: api.ChRemove, Link: link} }

func setKey(link int, key []byte, side int) api.Change {
	return api.Change{Kind: api.ChSetKey, Link: link, Key: key, Side: side}
}

func allow(link int, p api.Prefix) api.Change {
	return api.Change{Kind: api.ChAllow, Link: link, Prefix: p}
}

func deny(link int, p api.Prefix) api.Change {
	return api.Change{Kind: api.ChDeny, Link: link, Prefix: p}
}

func look(a int) api.Op { return api.Op{Kind: api.OpLook, A: a} }

func looks(n int) []api.Op { return slices.Repeat([]api.Op{look(0)}, n) }
