package script_test

import (
	"fmt"
	"strings"
	"testing"

	"culvert/api"
)

// one of each change, with what it says.
func texts() map[string]api.Change {
	return map[string]api.Change{
		"add 1 0a0b 2":       add(1, []byte{0x0A, 0x0B}, 2),
		"remove 1":           remove(1),
		"setkey 1 0c 2":      setKey(1, []byte{0x0C}, 2),
		"allow 1 10.0.0.0/8": allow(1, pre(eightText)),
		"deny 1 10.0.0.0/8":  deny(1, pre(eightText)),
	}
}

// P22.1, P22.4, P22.5: each change, alone and each two and each three behind one another, there and back.
func TestChanges(t *testing.T) {
	wantChanges(t, "")
	wantPrintChanges(t, "")
	for one, a := range texts() {
		wantChanges(t, one, a)
		wantPrintChanges(t, one, a)
		for two, b := range texts() {
			wantChanges(t, one+" , "+two, a, b)
			wantPrintChanges(t, one+" , "+two, a, b)
			for three, c := range texts() {
				wantChanges(t, one+" , "+two+" , "+three, a, b, c)
				wantPrintChanges(t, one+" , "+two+" , "+three, a, b, c)
			}
		}
	}
}

// P22.1, P22.4: very many, more than a node would take.
func TestManyChanges(t *testing.T) {
	var l []api.Change
	var parts []string
	for n := range 5000 {
		l = append(l, remove(n))
		parts = append(parts, fmt.Sprint("remove ", n))
		if n < 40 || n == 4999 {
			wantChanges(t, strings.Join(parts, " , "), l...)
			wantPrintChanges(t, strings.Join(parts, " , "), l...)
			wantNoChanges(t, strings.Join(parts, " , ")+" ,", badWord)
		}
	}
}

// P22.1, P22.4: the comma is a word of its own: at the beginning, at the end, twice, alone; glued to another word it parts nothing.
func TestCommas(t *testing.T) {
	for _, text := range []string{
		",", ", ,", ", , ,", ", remove 1", "remove 1 ,", ", remove 1 ,", "remove 1 , , remove 2", "remove 1 , remove 2 ,", "remove 1 , remove 2 , , remove 3", ", , remove 1", "remove 1 , ,", ",,", ",remove 1", ", remove 1 , remove",
		"remove 1 , ,remove 2", ",, remove 2 , ,",
	} {
		wantNoChanges(t, text, badWord)
		wantNoChanges(t, "\t"+strings.ReplaceAll(text, " ", " \t")+" # so", badWord)
	}
	wantNoChanges(t, "remove 1,", badNumber)
	wantNoChanges(t, "remove 1, remove 2", badWords)
	wantNoChanges(t, "remove 1 ,remove 2", badWords)
	wantNoChanges(t, "remove 1 ,, remove 2", badWords)
	wantNoChanges(t, "remove 1,remove 2", badWords)
	wantNoChanges(t, "remove , remove 1", badWords)
	wantNoChanges(t, "add 1 , 1", badWords)
	wantChanges(t, " remove\t1\t,\t\tremove  2 ", remove(1), remove(2))
	wantChanges(t, "remove 1 , remove 2#,", remove(1), remove(2))
	wantChanges(t, "remove 1 #, x", remove(1))
	wantNoChanges(t, "remove 1 ,#remove 2", badWord)
}

// P22.1, P22.4: one word too few and one too many, and more.
func TestChangesWords(t *testing.T) {
	for text := range texts() {
		words := strings.Fields(text)
		for n := 1; n < len(words); n++ {
			few := strings.Join(words[:n], " ")
			wantNoChanges(t, few, badWords)
			wantNoChanges(t, few+" , remove 1", badWords)
			wantNoChanges(t, "remove 1 , "+few, badWords)
		}
		for _, more := range []string{" 0", " -", " x", " x y", " ,x", " remove 1", " 10.0.0.0/8"} {
			wantNoChanges(t, text+more, badWords)
			wantNoChanges(t, "remove 1 , "+text+more, badWords)
			wantNoChanges(t, text+more+" , see", badWords)
		}
	}
}

// P22.1, P22.4: names that are no change's.
func TestChangesNames(t *testing.T) {
	for text := range texts() {
		name, rest, _ := strings.Cut(text, " ")
		for _, odd := range []string{strings.ToUpper(name), strings.ToUpper(name[:1]) + name[1:], name + "s", name[1:], name[:len(name)-1], name + ",", "," + name, "-" + name, name + name} {
			wantNoChanges(t, odd, badWord)
			wantNoChanges(t, odd+" "+rest, badWord)
			wantNoChanges(t, odd+" "+rest+" x", badWord)
			wantNoChanges(t, "remove 1 , "+odd+" "+rest, badWord)
		}
	}
	for _, odd := range []string{"put", "setKey", "set", "-", "0", "1", "commit", "look", "power", "io", "culvert", "x", "ChAdd", "lKs"} {
		for _, rest := range []string{"", " 1", " x", " 1 0a 1", " 1 10.0.0.0/8"} {
			wantNoChanges(t, odd+rest, badWord)
		}
	}
}

// P22.1, P22.4: each word's own error, and which of two comes first: the text, then change by change; of one its name, how many words it has, then these from the left to the right.
func TestChangesOrder(t *testing.T) {
	for text, want := range map[string]api.Errno{
		"add x 0a 1": badNumber, "add 1 x 1": badHex, "add 1 0a x": badNumber, "add x x 1": badNumber, "add 1 x x": badHex, "add x 0a x": badNumber,
		"setkey x 0a 1": badNumber, "setkey 1 x 1": badHex, "setkey 1 0a x": badNumber, "setkey x x 1": badNumber, "setkey 1 x x": badHex,
		"remove x":            badNumber,
		"allow x 10.0.0.0/8":  badNumber,
		"allow 1 10.0.0.1/8":  badPrefix,
		"allow x 10.0.0.1/8":  badNumber,
		"deny x 10.0.0.0/8":   badNumber,
		"deny 1 10.0.0.1/8":   badPrefix,
		"deny x 10.0.0.1/8":   badNumber,
		"add 1 10.0.0.0/8 1":  badHex,
		"allow 1 0a":          badPrefix,
		"allow 10.0.0.0/8 1":  badNumber,
		"add 1 1 0a":          badHex,
		"add x y":             badWords,
		"put x y":             badWord,
		"add 1 x 1 , put":     badHex,
		"put , add 1 x 1":     badWord,
		"add , put":           badWords,
		"allow 1 x , add":     badPrefix,
		"remove x , ,":        badNumber,
		", remove x":          badWord,
		"remove 1 , remove x": badNumber,
		"add 1 x 1 , \x00":    badText,
		"put \x7f":            badText,
		"add é":               badText,
		"\x00":                badText,
		"remove 1 \x80 # so":  badText,
	} {
		wantNoChanges(t, text, want)
		wantNoChanges(t, text+" # so", want)
		wantNoChanges(t, "remove 1 , "+text, want)
	}
}

// P22.4: one line: a newline byte is none of it, wherever it stands, in a comment too; that is told ahead of what the changes have.
func TestParseChangesNewline(t *testing.T) {
	for _, text := range []string{"\n", "remove 1\n", "\nremove 1", "remove 1 ,\nremove 2", "remove\n1", "# so\n", "remove 1 # so\n", "remove 1 #\n, remove 2", "put\n", "add x\n", "\x00\n", "\n\n", "remove 1 , \n"} {
		wantChangesFault(t, text, badText)
	}
}

// P22.4: no word: no changes; comments and blanks as of any line.
func TestParseChangesNoWord(t *testing.T) {
	for _, text := range []string{"", " ", "\t \t", "#", " # so", "#\x00\xff", "\t#,", strings.Repeat(" ", maxScript), strings.Repeat("#", maxScript)} {
		wantParseChanges(t, text)
	}
	for b := range 256 {
		c := string([]byte{byte(b)})
		if c != "\n" {
			wantParseChanges(t, "remove 1 #"+c+" , x", remove(1))
			wantParseChanges(t, "#"+c)
		}
	}
}

// P22.4: MaxScript bytes and one more: that is told ahead of all.
func TestParseChangesLong(t *testing.T) {
	for _, fill := range []string{" ", "\t", "#"} {
		text := "remove 1" + strings.Repeat(fill, maxScript)
		wantParseChanges(t, text[:maxScript], remove(1))
		wantChangesFault(t, text[:maxScript+1], many)
	}
	for _, text := range []string{"\n", "\x00", "put ", "remove 1 , "} {
		wantChangesFault(t, strings.Repeat(text, maxScript/len(text)+1), many)
	}
	wantChangesFault(t, strings.Repeat(" ", maxScript-1)+"\n", badText)
	wantChangesFault(t, strings.Repeat(" ", maxScript-1)+"x", badWord)
}
