package script_test

import (
	"fmt"
	"slices"
	"strings"
	"testing"

	"culvert/api"
)

// lines are one of each step, with what it says; the words of each are unlike one another.
func lines() map[string]api.Op {
	return map[string]api.Op{
		"commit 1 add 2 0a0b 3 , remove 4":     {Kind: api.OpCommit, A: 1, Changes: []api.Change{add(2, []byte{0x0A, 0x0B}, 3), remove(4)}},
		"send 1 c0ffee":                        {Kind: api.OpSend, A: 1, Data: []byte{0xC0, 0xFF, 0xEE}},
		"rekey 1 2":                            {Kind: api.OpRekey, A: 1, Link: 2},
		"tick 1 2.000000003":                   {Kind: api.OpTick, A: 1, Stamp: api.Stamp{Sec: 2, Nano: 3}},
		"give 1":                               {Kind: api.OpGive, K: 1},
		"drop 1":                               {Kind: api.OpDrop, K: 1},
		"copy 1":                               {Kind: api.OpCopy, K: 1},
		"flip 1 2 3":                           {Kind: api.OpFlip, K: 1, At: 2, X: 3},
		"junk 1 23":                            {Kind: api.OpJunk, A: 1, Data: []byte{0x23}},
		"arm 1 io 2 power 3 io 4":              {Kind: api.OpArm, A: 1, Faults: []api.Fault{{At: 2, Kind: api.FaultIO}, {At: 3, Kind: api.FaultPower}, {At: 4, Kind: api.FaultIO}}},
		"crash 1 1011":                         {Kind: api.OpCrash, A: 1, Keep: []bool{true, false, true, true}},
		"boot 1 2 3":                           {Kind: api.OpBoot, A: 1, Params: api.Params{Block: 2, Width: 3}},
		"look 1":                               {Kind: api.OpLook, A: 1},
		"run 1":                                {Kind: api.OpRun, K: 1},
		"commit 4294967295":                    {Kind: api.OpCommit, A: maxNumber},
		"arm 4294967295":                       {Kind: api.OpArm, A: maxNumber},
		"crash 4294967295 -":                   {Kind: api.OpCrash, A: maxNumber},
		"send 4294967295 -":                    {Kind: api.OpSend, A: maxNumber},
		"junk 0 -":                             {Kind: api.OpJunk},
		"tick 0 0.000000000":                   {Kind: api.OpTick},
		"boot 4294967295 0 4294967295":         {Kind: api.OpBoot, A: maxNumber, Params: api.Params{Width: maxNumber}},
		"flip 4294967295 4294967295 0":         {Kind: api.OpFlip, K: maxNumber, At: maxNumber},
		"rekey 0 4294967295":                   {Kind: api.OpRekey, Link: maxNumber},
		"arm 0 io 4294967295 io 0":             {Kind: api.OpArm, Faults: []api.Fault{{At: maxNumber, Kind: 2}, {At: 0, Kind: 2}}},
		"crash 0 0":                            {Kind: api.OpCrash, Keep: []bool{false}},
		"crash 0 1":                            {Kind: api.OpCrash, Keep: []bool{true}},
		"commit 0 setkey 0 - 0":                {Kind: api.OpCommit, Changes: []api.Change{setKey(0, nil, 0)}},
		"commit 0 deny 5 " + zeros6Text:        {Kind: api.OpCommit, Changes: []api.Change{deny(5, api.Prefix{Addr: api.Addr{Family: 6}})}},
		"tick 9 9223372036854775807.999999999": {Kind: api.OpTick, A: 9, Stamp: api.Stamp{Sec: 1<<63 - 1, Nano: 999999999}},
	}
}

// P22.1, P22.2: each step with its words, there and back.
func TestSteps(t *testing.T) {
	var all []api.Op
	var text strings.Builder
	for line, o := range lines() {
		wantStep(t, line, o)
		wantStep(t, " \t"+strings.ReplaceAll(line, " ", "\t ")+" #", o)
		wantLine(t, o, line)
		all = append(all, o)
		text.WriteString(line + "\n")
	}
	wantParse(t, head+text.String(), of(all...)) // one behind the other
	wantPrint(t, of(all...), head+text.String())
}

// P22.1: one word too few and one too many, and more; of commit and arm as many as they want.
func TestStepsWords(t *testing.T) {
	for line := range lines() {
		words := strings.Fields(line)
		name := words[0]
		wantStepFault(t, name, badWords)
		if name == "commit" || name == "arm" {
			continue
		}
		for n := 1; n < len(words); n++ {
			wantStepFault(t, strings.Join(words[:n], " "), badWords)
		}
		for _, more := range []string{" 0", " -", " ,", " x", " x y", " 0 0 0 0 0"} {
			wantStepFault(t, line+more, badWords)
		}
	}
}

// P22.1: names that are no step's, ahead of all else that a line has.
func TestStepsNames(t *testing.T) {
	for line := range lines() {
		name, rest, _ := strings.Cut(line, " ")
		for _, odd := range []string{strings.ToUpper(name), strings.ToUpper(name[:1]) + name[1:], name + "s", name[1:], name[:len(name)-1], name + ",", "-" + name, name + name, name + "\\"} {
			wantStepFault(t, odd, badWord)
			wantStepFault(t, odd+" "+rest, badWord)
			wantStepFault(t, odd+" "+rest+" x", badWord)
		}
	}
	for _, odd := range []string{"culvert", "add", "remove", "setkey", "allow", "deny", "power", "io", ",", "-", "0", "1", "14", "x", "see", "a", "aC", "=", "OpLook"} {
		for _, rest := range []string{"", " 1", " 1 2", " x", " 1 add 1 0a 1"} {
			wantStepFault(t, odd+rest, badWord)
		}
	}
}

// places are the lines of steps with a number's place left open, for each number that a step has.
func places() []string {
	return []string{
		"commit %s", "commit %s remove 1", "send %s 0a", "rekey %s 1", "rekey 1 %s", "tick %s 1.000000000", "give %s", "drop %s", "copy %s",
		"flip %s 1 1", "flip 1 %s 1", "flip 1 1 %s", "junk %s -", "arm %s", "arm %s io 1", "arm 1 io %s", "arm 1 io 1 power %s", "crash %s -", "boot %s 1 1", "boot 1 %s 1", "boot 1 1 %s", "look %s", "run %s",
		"commit 1 add %s 0a 1", "commit 1 add 1 0a %s", "commit 1 remove %s", "commit 1 setkey %s 0a 1", "commit 1 setkey 1 0a %s", "commit 1 allow %s 10.0.0.0/8", "commit 1 deny %s 10.0.0.0/8",
		"commit 1 remove 1 , remove %s", "commit 1 remove %s , remove 1",
	}
}

// P22.1: each word that is a number, at words that are none and at numbers that are unlike all others of the line.
func TestStepsNumbers(t *testing.T) {
	for _, place := range places() {
		for _, word := range noNumbers() {
			if strings.HasPrefix(place, "commit 1") && word == "," {
				continue // there it parts two changes
			}
			wantStepFault(t, fmt.Sprintf(place, word), badNumber)
		}
		for _, n := range []int{0, 2, 10, maxNumber - 1, maxNumber} {
			line := fmt.Sprintf(place, fmt.Sprint(n))
			want, line1, e := plainParse(head + line)
			if e != api.OK || line1 != 0 {
				t.Fatalf("%q: %d", line, e)
			}
			wantParse(t, head+line, want)
		}
	}
}

// hexPlaces are the lines with the place of a hex left open, and what they say.
func hexPlaces(b []byte) map[string]api.Op {
	return map[string]api.Op{
		"send 1 %s":                      {Kind: api.OpSend, A: 1, Data: b},
		"junk 1 %s":                      {Kind: api.OpJunk, A: 1, Data: b},
		"commit 1 add 2 %s 3":            {Kind: api.OpCommit, A: 1, Changes: []api.Change{add(2, b, 3)}},
		"commit 1 setkey 2 %s 3":         {Kind: api.OpCommit, A: 1, Changes: []api.Change{setKey(2, b, 3)}},
		"commit 1 remove 1 , add 2 %s 3": {Kind: api.OpCommit, A: 1, Changes: []api.Change{remove(1), add(2, b, 3)}},
	}
}

// P22.1: hex, small, capital and mixed, of no bytes, of each byte, and of many.
func TestHex(t *testing.T) {
	words := map[string][]byte{"-": nil, "00": {0}, "0000": {0, 0}, "0123456789abcdefABCDEF": {0x01, 0x23, 0x45, 0x67, 0x89, 0xAB, 0xCD, 0xEF, 0xAB, 0xCD, 0xEF}, "aB": {0xAB}, "Ab": {0xAB}, "aBcD": {0xAB, 0xCD}}
	for b := range 256 {
		words[fmt.Sprintf("%02x", b)] = []byte{byte(b)}
		words[fmt.Sprintf("%02X", b)] = []byte{byte(b)}
		words[fmt.Sprintf("ff%02x00", b)] = []byte{0xFF, byte(b), 0}
	}
	for _, n := range []int{31, 32, 33, 1280, 2048, 2049, 5000, 100000} {
		words[strings.Repeat("5a", n)] = []byte(strings.Repeat("Z", n))
	}
	for word, b := range words {
		for place, want := range hexPlaces(b) {
			wantStep(t, fmt.Sprintf(place, word), want)
		}
	}
}

// P22.1: what is no hex: an odd number of digits, other signs at either place of a pair, a - beside digits.
func TestNoHex(t *testing.T) {
	words := []string{"0", "a", "F", "000", "abc", "0a0", "--", "-0", "0-", "-00", "00-", "---", "0x", "0x00", "0X0a", "x", "xx", "1_", "_1", "1_00", "+1", "-1", "+10a", "1.", "0a,", "0a,0b", ",,", "zz", "0g", "g0", "0G", "G0", "00g0", "000g", "g000", "0a0b0", "1.5e", "%2", "\"\"", "''"}
	for b := 0x21; b <= 0x7E; b++ {
		c := string([]byte{byte(b)})
		if c == "#" || strings.Contains("0123456789abcdefABCDEF", c) {
			continue
		}
		words = append(words, "0"+c, c+"0", "00"+c+"0", "000"+c, c+c, "a"+c+"b")
	}
	for _, n := range []int{31, 63, 65, 2559, 99999} {
		words = append(words, strings.Repeat("a", n), strings.Repeat("a", n)+"g", "g"+strings.Repeat("a", n))
	}
	for _, word := range words {
		for place := range hexPlaces(nil) {
			wantStepFault(t, fmt.Sprintf(place, word), badHex)
		}
	}
}

// P22.1: stamps and prefixes are what their own packages read.
func TestStampsAndPrefixes(t *testing.T) {
	for _, word := range []string{"5", "0", "-", "5.", "5.0", ".000000000", "05.000000000", "-5.000000000", "+5.000000000", "5.0000000000", "5.00000000", "5.00000000a", "9223372036854775808.000000000", "x", ",", "5,000000000"} {
		wantStepFault(t, "tick 1 "+word, badStamp)
	}
	for word, want := range map[string]api.Stamp{"0.000000001": {Nano: 1}, "7.000000000": {Sec: 7}, "12.345678901": {Sec: 12, Nano: 345678901}} {
		wantStep(t, "tick 0 "+word, api.Op{Kind: api.OpTick, Stamp: want})
	}
	for _, name := range []string{"allow", "deny"} {
		for _, word := range []string{"10.0.0.0", "10.0.0.1/8", "10.0.0.0/33", "10.0.0.0/08", "010.0.0.0/8", "-", "0", "::/0", "fd00::/8", "FD00:0000:0000:0000:0000:0000:0000:0000/8", "x", "/", "10.0.0.0/8,"} {
			wantNoChanges(t, name+" 1 "+word, badPrefix)
		}
	}
	for _, word := range []string{eightText, zeros6Text, "0.0.0.0/0", "255.255.255.255/32", "fd00:0000:0000:0000:0000:0000:0000:0000/8"} {
		wantChanges(t, "allow 3 "+word, allow(3, pre(word)))
		wantChanges(t, "deny 3 "+word, deny(3, pre(word)))
	}
}

// P22.1: FAULTS: no, one and more pairs.
func TestFaults(t *testing.T) {
	var faults []api.Fault
	line := "arm 1"
	for n := range 300 {
		wantStep(t, line, api.Op{Kind: api.OpArm, A: 1, Faults: faults})
		wantStepFault(t, line+" power", badWords)
		wantStepFault(t, line+" 1", badWords)
		wantStepFault(t, line+" x", badWords)
		wantStepFault(t, line+" x 1", badWord)
		wantStepFault(t, line+" io x", badNumber)
		kind, name := 1+n%2, []string{"power", "io"}[n%2]
		if n%7 == 0 {
			kind, name = 2, "io"
		}
		faults = append(faults, api.Fault{At: 1000 - n, Kind: kind}) // in the order of the line, whatever their numbers
		line += fmt.Sprintf(" %s %d", name, 1000-n)
	}
}

// P22.1: a pair's words: its first one is a fault's name, its second one a number; the pairs are looked at one by one, behind A.
func TestFaultsWords(t *testing.T) {
	for _, word := range []string{"Power", "IO", "Io", "powe", "powers", "p", "i", "ioo", "1", "2", "0", "3", "-", ",", "x", "FaultIO", "fault", "power,", "arm"} {
		wantStepFault(t, "arm 1 "+word+" 3", badWord)
		wantStepFault(t, "arm 1 io 1 "+word+" 3", badWord)
		wantStepFault(t, "arm 1 "+word+" x", badWord)
		wantStepFault(t, "arm 1 "+word+" 3 io x", badWord)
		wantStepFault(t, "arm 1 io x "+word+" 3", badNumber)
		wantStepFault(t, "arm x "+word+" 3", badNumber)
		wantStepFault(t, "arm x "+word, badWords)
	}
	wantStepFault(t, "arm", badWords)
	wantStepFault(t, "arm x", badNumber)
	wantStepFault(t, "arm 1 power io", badNumber)
	wantStepFault(t, "arm power 3", badWords)
	wantStepFault(t, "arm power 3 1", badNumber)
	wantStepFault(t, "arm 1 power 3 , io 5", badWords)
	wantStepFault(t, "arm 1 power 3 , io", badWord)
	wantStepFault(t, "arm 1 -", badWords)
}

// P22.1: BITS: all rows of up to ten, and words that are none.
func TestBits(t *testing.T) {
	for n := 1; n <= 10; n++ {
		for x := range 1 << n {
			word := fmt.Sprintf("%0*b", n, x)
			keep := make([]bool, n)
			for i := range keep {
				keep[i] = word[i] == '1'
			}
			wantStep(t, "crash 1 "+word, api.Op{Kind: api.OpCrash, A: 1, Keep: keep})
		}
	}
	for _, n := range []int{31, 32, 33, 64, 65, 8192, 100000} {
		wantStep(t, "crash 0 "+strings.Repeat("1", n), api.Op{Kind: api.OpCrash, Keep: slices.Repeat([]bool{true}, n)})
		wantStep(t, "crash 0 "+strings.Repeat("0", n), api.Op{Kind: api.OpCrash, Keep: make([]bool, n)})
	}
	for b := 0x21; b <= 0x7E; b++ {
		c := string([]byte{byte(b)})
		if c == "#" || c == "0" || c == "1" {
			continue
		}
		for _, word := range []string{c, c + "0", "0" + c, "1" + c + "0", c + c, "01" + c} {
			if word != "-" {
				wantStepFault(t, "crash 1 "+word, badNumber)
			}
		}
	}
	wantStepFault(t, "crash 1 0 1", badWords)
	wantStepFault(t, "crash x 2", badNumber)
}

// P22.1: which of two faults of a line comes first.
func TestStepsOrder(t *testing.T) {
	for line, want := range map[string]api.Errno{
		"see\x00": badText, "look 1 2\x00": badText, "look x\x00": badText, "send 1 x \x7f": badText,
		"see": badWord, "see x y z": badWord, "see x \x01": badText,
		"look x y": badWords, "send x": badWords, "send 1 x 2": badWords, "tick x y z": badWords, "boot x y": badWords, "crash 2": badWords, "flip x 1": badWords, "commit": badWords,
		"send x 0": badNumber, "send 1 0": badHex, "junk x 0": badNumber, "tick x 5": badNumber, "tick 1 5": badStamp, "crash x 2": badNumber, "arm x y z": badNumber, "arm 1 y z": badWord, "arm 1 io z y 1": badNumber, "arm x y": badWords,
		"commit x ,": badNumber, "commit x see": badNumber, "commit 1 see": badWord, "commit x add 1 0 1": badNumber, "commit 1 add 1 0 1": badHex,
	} {
		wantStepFault(t, line, want)
		wantStepFault(t, line+" # so", want)
	}
}

// P22.1: MaxSteps steps and one more; the lines between do not count, and what is wrong with the one too many is not asked, but its text.
func TestManySteps(t *testing.T) {
	full := strings.Repeat("look 0\n", maxSteps)
	wantParse(t, head+full, of(looks(maxSteps)...))
	wantParse(t, head+full+"\n# look 0\n \t\n", of(looks(maxSteps)...))
	wantParse(t, head+strings.ReplaceAll(full, "\n", "\n\n"), of(looks(maxSteps)...))
	wantParse(t, head+full[:len(full)-1], of(looks(maxSteps)...))
	wantParse(t, head+full[7:], of(looks(maxSteps-1)...))
	for _, more := range []string{"look 0", "look 0\n", "look 0\nlook 0", "look", "look x", "see", "culvert 64", ",", "commit 1 ,", "send 1 x\n\x00"} {
		wantFault(t, head+full+more, maxSteps+2, many)
		wantFault(t, "\n"+head+full+"#\n\n"+more, maxSteps+5, many)
	}
	wantFault(t, head+full+"\x00", maxSteps+2, badText)
	wantFault(t, head+full+"look 0\x00\nlook 0", maxSteps+2, badText)
	wantFault(t, head+full+"\n\x00\nlook 0", maxSteps+3, badText)
	wantFault(t, head+strings.Repeat("look 0\n", maxSteps-1)+"look x\nlook 0\nlook 0", maxSteps+1, badNumber)
	wantFault(t, head+strings.Repeat("look 0\n", 3*maxSteps), maxSteps+2, many)
}
