package script_test

import (
	"fmt"
	"slices"
	"strings"
	"testing"

	"culvert/api"
	"culvert/script"
)

var (
	noStamps = []api.Stamp{{Sec: -1}, {Nano: -1}, {Nano: 1000000000}, {Sec: -1 << 63}, {Sec: 5, Nano: 1<<63 - 1}, {Sec: -1, Nano: -1}}

	noPrefixes = []api.Prefix{
		{}, {Bits: 8}, {Addr: api.Addr{Lo: 1}}, {Addr: api.Addr{Family: 5}}, {Addr: api.Addr{Family: 4, Lo: 1}}, {Addr: api.Addr{Family: 4, Lo: 0x0A000001}, Bits: 8}, {Addr: api.Addr{Family: 4, Lo: 1 << 32}, Bits: 32}, {Addr: api.Addr{Family: 4, Hi: 1}, Bits: 32},
		{Addr: api.Addr{Family: 4}, Bits: 33}, {Addr: api.Addr{Family: 4}, Bits: -1}, {Addr: api.Addr{Family: 6}, Bits: 129}, {Addr: api.Addr{Family: 6, Lo: 1}, Bits: 127}, {Addr: api.Addr{Family: -4}},
	}

	outside = []int{-1, -2, maxNumber + 1, maxNumber + 2, 1 << 33, -maxNumber, 1<<63 - 1, -1 << 63}
)

// P22.2: a script's first line and its steps, in order; numbers at both bounds.
func TestPrint(t *testing.T) {
	for word, n := range numbers() {
		wantPrint(t, api.Script{Sectors: n}, "culvert "+word+"\n")
		wantPrint(t, api.Script{Sectors: n, Ops: []api.Op{{Kind: api.OpRun, K: n}, look(n)}}, "culvert "+word+"\nrun "+word+"\nlook "+word+"\n")
	}
	wantPrint(t, api.Script{Ops: []api.Op{look(1), look(0), look(1), {Kind: api.OpGive, K: 2}}}, "culvert 0\nlook 1\nlook 0\nlook 1\ngive 2\n")
	wantPrint(t, api.Script{Ops: []api.Op{}}, "culvert 0\n")
}

// P22.2: hex is small, `-` where there are no bytes and no bits; lists that are empty are as none.
func TestPrintHex(t *testing.T) {
	for b := range 256 {
		two := fmt.Sprintf("%02x", b)
		for place, o := range hexPlaces([]byte{byte(b), 0, byte(b)}) {
			wantLine(t, o, fmt.Sprintf(place, two+"00"+two))
		}
	}
	for _, none := range [][]byte{nil, {}} {
		for place, o := range hexPlaces(none) {
			wantLine(t, o, fmt.Sprintf(place, "-"))
		}
	}
	wantLine(t, api.Op{Kind: api.OpCrash, Keep: []bool{}}, "crash 0 -")
	wantLine(t, api.Op{Kind: api.OpArm, Faults: []api.Fault{}}, "arm 0")
	wantLine(t, api.Op{Kind: api.OpCommit, Changes: []api.Change{}}, "commit 0")
	wantLine(t, api.Op{Kind: api.OpCrash, Data: []byte{}, Changes: []api.Change{}, Faults: []api.Fault{}, Keep: []bool{true, false}}, "crash 0 10")
	wantPrintChanges(t, "remove 1", api.Change{Kind: api.ChRemove, Link: 1, Key: []byte{}})
	wantPrintChanges(t, "allow 1 10.0.0.0/8", api.Change{Kind: api.ChAllow, Link: 1, Key: []byte{}, Prefix: pre(eightText)})
}

// P22.3: Sectors.
func TestPrintSectors(t *testing.T) {
	for _, n := range outside {
		wantNoPrint(t, api.Script{Sectors: n}, badNumber)
		wantNoPrint(t, api.Script{Sectors: n, Ops: []api.Op{look(0)}}, badNumber)
		wantNoPrint(t, api.Script{Sectors: n, Ops: []api.Op{{}}}, badNumber)
		wantNoPrint(t, api.Script{Sectors: n, Ops: looks(maxSteps + 1)}, badNumber)
	}
}

// P22.3: MaxSteps steps and one more, ahead of what a step has.
func TestPrintManySteps(t *testing.T) {
	wantPrint(t, of(looks(maxSteps)...), head+strings.Repeat("look 0\n", maxSteps))
	wantNoPrint(t, of(looks(maxSteps+1)...), many)
	wantNoPrint(t, of(slices.Concat([]api.Op{{}}, looks(maxSteps))...), many)
	wantNoPrint(t, of(slices.Concat(looks(maxSteps), []api.Op{{}})...), many)
	wantNoPrint(t, of(slices.Concat(looks(maxSteps-1), []api.Op{{}})...), badWord)
}

// P22.3: kinds.
func TestPrintKinds(t *testing.T) {
	for kind := 1; kind <= 14; kind++ {
		o := api.Op{Kind: kind}
		if _, e := script.Print(of(o)); e != api.OK {
			t.Errorf("Print of the kind %d: %d", kind, e)
		}
	}
	for _, kind := range []int{0, -1, 15, 16, 14 + 1<<8, 1 + 1<<32, 14 - 1<<32, 1<<63 - 1, -1 << 63, 100} {
		wantNoLine(t, api.Op{Kind: kind}, badWord)
		wantNoLine(t, newSampler(1).full(kind), badWord)
		wantNoLine(t, api.Op{Kind: kind, A: -1}, badWord)
		wantNoPrint(t, of(look(0), api.Op{Kind: kind}, look(-1)), badWord)
	}
	for _, kind := range []int{0, -1, 6, 7, 1 + 1<<32, 1<<63 - 1, -1 << 63} {
		wantNoPrintChanges(t, badWord, api.Change{Kind: kind})
		wantNoPrintChanges(t, badWord, api.Change{Kind: kind, Link: -1, Side: -1, Key: []byte{1}, Prefix: api.Prefix{Bits: 1}})
		wantNoPrintChanges(t, badWord, remove(1), api.Change{Kind: kind}, remove(-1))
	}
}

// fieldsOf sets one field of a step each, to something that is not zero.
func fieldsOf() map[string]func(o *api.Op) {
	return map[string]func(o *api.Op){
		"A": func(o *api.Op) { o.A++ }, "K": func(o *api.Op) { o.K++ }, "At": func(o *api.Op) { o.At++ }, "X": func(o *api.Op) { o.X++ }, "Link": func(o *api.Op) { o.Link++ },
		"Data": func(o *api.Op) { o.Data = []byte{0} }, "Changes": func(o *api.Op) { o.Changes = []api.Change{remove(0)} }, "Faults": func(o *api.Op) { o.Faults = []api.Fault{{Kind: 1}} }, "Keep": func(o *api.Op) { o.Keep = []bool{false} },
		"Stamp": func(o *api.Op) { o.Stamp.Sec++ }, "Stamp, Nano": func(o *api.Op) { o.Stamp.Nano++ },
		"Params": func(o *api.Op) { o.Params.Block++ }, "Params, Width": func(o *api.Op) { o.Params.Width++ },
	}
}

// P22.3: a field that the kind does not have, one by one, with values that may be and such that may not: ErrSpare, ahead of what the kind's own fields have.
func TestPrintSpare(t *testing.T) {
	spared := 0
	for _, r := range stepRows {
		for name, set := range fieldsOf() {
			name, _, _ = strings.Cut(name, ",")
			o := api.Op{Kind: r.kind}
			set(&o)
			if r.has(name) {
				if _, e := script.Print(of(o)); e != api.OK {
					t.Errorf("Print(%+v): %d", o, e)
				}
				continue
			}
			spared++
			wantNoLine(t, o, spare)
			o.A, o.K = -1, -1 // one is the kind's own, the other one is not
			wantNoLine(t, o, spare)
		}
		for _, o := range []api.Op{{A: -1, K: -1}, {A: maxNumber + 1, K: 1}, {A: 1, K: maxNumber + 1}} {
			o.Kind = r.kind
			wantNoLine(t, o, spare)
		}
	}
	if spared != 14*13-26 {
		t.Errorf("%d fields that a kind does not have", spared)
	}
	for _, o := range []api.Op{
		{Kind: api.OpTick, K: 1, Stamp: api.Stamp{Nano: -1}}, {Kind: api.OpArm, X: 1, Faults: []api.Fault{{Kind: 3}}}, {Kind: api.OpCommit, Link: 1, Changes: []api.Change{{}}}, {Kind: api.OpSend, K: -1, Data: make([]byte, maxScript)},
		{Kind: api.OpLook, Stamp: api.Stamp{Sec: -1}}, {Kind: api.OpLook, Faults: []api.Fault{{}}}, {Kind: api.OpLook, Changes: []api.Change{{}}}, {Kind: api.OpLook, Params: api.Params{Width: -1}}, {Kind: api.OpRun, A: -1}, {Kind: api.OpGive, Link: maxNumber + 1},
	} {
		wantNoLine(t, o, spare)
	}
}

// P22.3: the numbers of each kind at 0, at the greatest, one more and below zero.
func TestPrintNumbers(t *testing.T) {
	for _, r := range stepRows {
		for _, f := range r.fields {
			if f.what != "number" {
				continue
			}
			set := func(n int) api.Op {
				o := only(api.Op{Kind: r.kind, A: 1, K: 1, At: 1, X: 1, Link: 1, Params: api.Params{Block: 1, Width: 1}, Data: []byte{1}, Changes: []api.Change{remove(1)}, Faults: []api.Fault{{At: 1, Kind: 1}}, Keep: []bool{true}})
				switch f.path {
				case "A":
					o.A = n
				case "K":
					o.K = n
				case "At":
					o.At = n
				case "X":
					o.X = n
				case "Link":
					o.Link = n
				case "Params.Block":
					o.Params.Block = n
				case "Params.Width":
					o.Params.Width = n
				}
				return o
			}
			for _, n := range []int{0, 1, 2, maxNumber - 1, maxNumber} {
				want, _ := plainPrint(of(set(n)))
				wantPrint(t, of(set(n)), want)
			}
			for _, n := range outside {
				wantNoLine(t, set(n), badNumber)
				wantNoPrint(t, of(look(1), set(n), api.Op{}), badNumber)
			}
		}
	}
}

// P22.3: stamps, faults and changes that are none, each alone, and which of two comes first.
func TestPrintFaults(t *testing.T) {
	for _, s := range noStamps {
		wantNoLine(t, api.Op{Kind: api.OpTick, Stamp: s}, badStamp)
		wantNoLine(t, api.Op{Kind: api.OpTick, A: -1, Stamp: s}, badNumber)
		wantNoLine(t, api.Op{Kind: api.OpTick, Link: 1, Stamp: s}, spare)
	}
	arm := func(a int, l ...api.Fault) api.Op { return api.Op{Kind: api.OpArm, A: a, Faults: l} }
	for _, kind := range []int{0, 3, -1, 4, 1 + 1<<32, 1<<63 - 1, -1 << 63} {
		odd := api.Fault{At: 1, Kind: kind}
		wantNoLine(t, arm(0, odd), badWord)
		wantNoLine(t, arm(0, api.Fault{At: -1, Kind: kind}), badWord)
		wantNoLine(t, arm(0, odd, api.Fault{At: -1, Kind: 1}), badWord)
		wantNoLine(t, arm(0, api.Fault{At: -1, Kind: 1}, odd), badNumber)
		wantNoLine(t, arm(0, api.Fault{At: 1, Kind: 2}, odd), badWord)
		wantNoLine(t, arm(-1, odd), badNumber)
	}
	for _, n := range outside {
		wantNoLine(t, arm(0, api.Fault{At: n, Kind: 1}), badNumber)
		wantNoLine(t, arm(0, api.Fault{At: n, Kind: 2}), badNumber)
		wantNoLine(t, arm(0, api.Fault{At: 1, Kind: 2}, api.Fault{At: n, Kind: 1}), badNumber)
	}
	wantLine(t, arm(0, api.Fault{At: 0, Kind: 1}, api.Fault{At: maxNumber, Kind: 2}), "arm 0 power 0 io 4294967295")
	for _, n := range outside {
		wantNoLine(t, api.Op{Kind: api.OpCommit, A: n, Changes: []api.Change{{}}}, badNumber)
	}
}

// P22.3: over steps the first one's fault is told, for each two.
func TestPrintFirstFault(t *testing.T) {
	odd := map[api.Errno]api.Op{
		badWord: {}, spare: {Kind: api.OpLook, K: 1}, badNumber: {Kind: api.OpRun, K: -1}, badStamp: {Kind: api.OpTick, Stamp: api.Stamp{Nano: -1}}, badPrefix: {Kind: api.OpCommit, Changes: []api.Change{allow(1, api.Prefix{})}},
	}
	for e, one := range odd {
		for _, two := range odd {
			wantNoPrint(t, of(one, two), e)
			wantNoPrint(t, of(look(1), one, look(1), two), e)
		}
	}
}

// P22.5: a field that the kind does not have, one by one, ahead of what its own fields have.
func TestPrintChangesSpare(t *testing.T) {
	ten := pre(eightText)
	for _, c := range []api.Change{
		{Kind: api.ChAdd, Prefix: ten}, {Kind: api.ChSetKey, Prefix: ten}, {Kind: api.ChRemove, Prefix: ten}, {Kind: api.ChRemove, Side: 1}, {Kind: api.ChRemove, Key: []byte{0}},
		{Kind: api.ChAllow, Prefix: ten, Side: 1}, {Kind: api.ChAllow, Prefix: ten, Key: []byte{0}}, {Kind: api.ChDeny, Prefix: ten, Side: 1}, {Kind: api.ChDeny, Prefix: ten, Key: []byte{0}},
		{Kind: api.ChAdd, Prefix: api.Prefix{Bits: 1}}, {Kind: api.ChAdd, Prefix: api.Prefix{Addr: api.Addr{Family: 4}}}, {Kind: api.ChAdd, Prefix: api.Prefix{Addr: api.Addr{Hi: 1}}}, {Kind: api.ChAdd, Prefix: api.Prefix{Addr: api.Addr{Lo: 1}}}, {Kind: api.ChRemove, Side: -1}, {Kind: api.ChAllow, Prefix: ten, Side: maxNumber + 1},
		{Kind: api.ChAllow, Side: 1}, {Kind: api.ChDeny, Key: []byte{1}},
	} {
		wantNoPrintChanges(t, spare, c)
		wantNoPrintChanges(t, spare, remove(1), c, remove(-1))
		wantNoPrintChanges(t, badNumber, remove(-1), c)
		c.Link = -1
		wantNoPrintChanges(t, spare, c)
	}
}

// P22.5: numbers and prefixes, each alone, and which of two comes first.
func TestPrintChangesFaults(t *testing.T) {
	ten := pre(eightText)
	for _, n := range outside {
		for _, c := range []api.Change{
			add(n, nil, 0), add(0, nil, n), add(n, []byte{1}, n), setKey(n, nil, 0), setKey(0, nil, n), remove(n), allow(n, ten), deny(n, ten), allow(n, api.Prefix{}), deny(n, api.Prefix{Bits: 1}),
		} {
			wantNoPrintChanges(t, badNumber, c)
			wantNoPrintChanges(t, badNumber, remove(0), c, api.Change{})
		}
	}
	for _, p := range noPrefixes {
		wantNoPrintChanges(t, badPrefix, allow(0, p))
		wantNoPrintChanges(t, badPrefix, deny(maxNumber, p))
		wantNoPrintChanges(t, badPrefix, remove(1), deny(1, p), remove(-1))
		wantNoPrintChanges(t, badNumber, remove(-1), deny(1, p))
	}
	wantPrintChanges(t, "add 0 - 0 , add 4294967295 00 4294967295 , setkey 4294967295 ff 0 , remove 0 , remove 4294967295", add(0, nil, 0), add(maxNumber, []byte{0}, maxNumber), setKey(maxNumber, []byte{0xFF}, 0), remove(0), remove(maxNumber))
}

// P22.3: the text's length at MaxScript and one more, of each kind that can be long.
func TestPrintLong(t *testing.T) {
	for _, sectors := range []int{6, 64} { // so that the bytes left are odd, and even
		begin := fmt.Sprintf("culvert %d\n", sectors)
		left := maxScript - len(begin)
		long := func(o api.Op) api.Script { return api.Script{Sectors: sectors, Ops: []api.Op{o}} }
		bits := func(n int) api.Script { return long(api.Op{Kind: api.OpCrash, Keep: make([]bool, n)}) }
		room := left - len("crash 0 \n")
		wantPrint(t, bits(room), begin+"crash 0 "+strings.Repeat("0", room)+"\n")
		for _, more := range []int{1, 2, 3, 1000, maxScript, 5 * maxScript} {
			wantNoPrint(t, bits(room+more), many)
		}
		for name, kind := range map[string]int{"send": api.OpSend, "junk": api.OpJunk} {
			bytes := func(n, a int) api.Script { return long(api.Op{Kind: kind, A: a, Data: make([]byte, n)}) }
			room := left - len("send 0 \n")
			a, digit := 0, room%2 // where one byte is over, A has two digits
			if digit == 1 {
				a = 10
			}
			wantPrint(t, bytes(room/2, a), begin+fmt.Sprintf("%s %d ", name, a)+strings.Repeat("00", room/2)+"\n")
			wantNoPrint(t, bytes(room/2, 100), many)
			for _, more := range []int{1, 2, 1000, maxScript, 5 * maxScript} {
				wantNoPrint(t, bytes(room/2+more, a), many)
			}
		}
	}
}

// P22.3: the length over many steps: what is too long is told at last, whatever stands behind it; where a commit's changes are too long by themselves, at that step.
func TestPrintLongOrder(t *testing.T) {
	half := api.Op{Kind: api.OpSend, Data: make([]byte, maxScript/4)}
	long := api.Op{Kind: api.OpJunk, Data: make([]byte, maxScript)}
	wantNoPrint(t, of(half, half), many)
	wantNoPrint(t, of(half, half, half, half), many)
	for e, odd := range map[api.Errno]api.Op{
		badWord: {Kind: 15}, spare: {Kind: api.OpLook, K: 1}, badNumber: {Kind: api.OpRun, K: -1}, badStamp: {Kind: api.OpTick, Stamp: api.Stamp{Nano: -1}}, badPrefix: {Kind: api.OpCommit, Changes: []api.Change{allow(1, api.Prefix{})}},
	} {
		wantNoPrint(t, of(half, half, odd), e)
		wantNoPrint(t, of(long, long, odd), e)
		wantNoPrint(t, of(long, api.Op{Kind: api.OpCommit, Changes: []api.Change{add(1, make([]byte, maxScript/4), 1)}}, odd), e)

		changes := api.Op{Kind: api.OpCommit, Changes: []api.Change{add(1, make([]byte, maxScript), 1)}}
		wantNoPrint(t, of(changes, odd), many)
		wantNoPrint(t, of(odd, changes), e)
		fits := longChanges(maxScript)
		wantNoPrint(t, of(api.Op{Kind: api.OpCommit, Changes: fits}), many) // with the name and A
		wantNoPrint(t, of(api.Op{Kind: api.OpCommit, Changes: fits}, odd), e)
		wantNoPrint(t, of(api.Op{Kind: api.OpCommit, Changes: longChanges(maxScript + 1)}, odd), many)
	}
	steps := slices.Repeat([]api.Op{{Kind: api.OpSend, Data: make([]byte, 257)}}, maxSteps) // 522 bytes each
	wantPrint(t, of(steps...), head+strings.Repeat("send 0 "+strings.Repeat("00", 257)+"\n", maxSteps))
	steps = slices.Repeat([]api.Op{{Kind: api.OpSend, Data: make([]byte, 259)}}, maxSteps)
	wantNoPrint(t, of(steps...), many)
}

// longChanges are changes whose text has so many bytes: one with a key as long as it can be, and one whose number fills up.
func longChanges(n int) []api.Change {
	key := (n - len("add 1  1 , remove 1")) / 2
	l := []api.Change{add(1, make([]byte, key), 1), remove(1)}
	if n%2 == 0 { // the rest is odd
		l[1].Link = 10
	}
	return l
}

// P22.5: the length of the changes' text at MaxScript and one more; it is asked at last.
func TestPrintChangesLong(t *testing.T) {
	for n := maxScript - 4; n <= maxScript+4; n++ {
		l := longChanges(n)
		text, e := script.PrintChanges(l)
		switch {
		case n > maxScript && (text != "" || e != many):
			t.Errorf("PrintChanges of %d bytes: %d bytes, %d", n, len(text), e)
		case n <= maxScript && (len(text) != n || e != api.OK):
			t.Errorf("PrintChanges of %d bytes: %d bytes, %d", n, len(text), e)
		}
	}
	long := add(1, make([]byte, maxScript), 1)
	wantNoPrintChanges(t, many, long)
	wantNoPrintChanges(t, many, remove(1), long, long, remove(1))
	wantNoPrintChanges(t, many, setKey(1, make([]byte, 5*maxScript), 1))
	wantNoPrintChanges(t, badWord, long, api.Change{})
	wantNoPrintChanges(t, spare, long, api.Change{Kind: api.ChRemove, Side: 1})
	wantNoPrintChanges(t, badNumber, long, remove(-1))
	wantNoPrintChanges(t, badNumber, add(1, make([]byte, maxScript), -1))
	wantNoPrintChanges(t, badPrefix, long, allow(1, api.Prefix{}))
}

// P22.3: how much text there would be does not matter: steps may share what they have.
func TestPrintVeryLong(t *testing.T) {
	data := make([]byte, 4*maxScript)
	wantNoPrint(t, of(slices.Repeat([]api.Op{{Kind: api.OpSend, Data: data}}, maxSteps)...), many)
	keep := make([]bool, 4*maxScript)
	wantNoPrint(t, of(slices.Repeat([]api.Op{{Kind: api.OpCrash, Keep: keep}}, maxSteps)...), many)
	fits := longChanges(maxScript)
	wantNoPrint(t, of(slices.Repeat([]api.Op{{Kind: api.OpCommit, Changes: fits}}, 200)...), many)
}
