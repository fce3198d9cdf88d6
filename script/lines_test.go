package script_test

import (
	"fmt"
	"strings"
	"testing"

	"culvert/api"
	"culvert/script"
)

// P22.1: what has no line with words is no script, whatever else there is.
func TestNoWords(t *testing.T) {
	for _, text := range []string{
		"", "\n", "\n\n\n", " ", "\t", " \t \n\t \t", "#", "#\n", "# culvert 64", " # culvert 64\n#run 1", "\n#\n \n\t#", "##", "#\x00\xff\n", strings.Repeat("\n", maxScript), strings.Repeat(" ", maxScript), strings.Repeat("#", maxScript),
	} {
		wantFault(t, text, 0, noScript)
	}
}

// P22.1: the last line has its newline or not, and lines without words stand anywhere.
func TestLines(t *testing.T) {
	one := of(look(1))
	for _, text := range []string{
		"culvert 64\nlook 1", "culvert 64\nlook 1\n", "culvert 64\nlook 1\n\n\n", "culvert 64\n\nlook 1", "\nculvert 64\nlook 1", "\n\n \n\t\n#\nculvert 64\n \t#\n#look 2\nlook 1\n# look 3\n ", "culvert 64\n\n\n\nlook 1\n#",
	} {
		wantParse(t, text, one)
	}
	wantParse(t, "culvert 64", of())
	wantParse(t, "culvert 64\n", of())
	wantParse(t, "culvert 64\nlook 1\nlook 2\nlook 1", of(look(1), look(2), look(1)))
	wantStepFault(t, "look 1 look 2", badWords)
	wantFault(t, "culvert 64 look 1", 1, badWords)
}

// P22.1: blanks ahead, behind and between, one or more, of both kinds.
func TestBlanks(t *testing.T) {
	want := of(api.Op{Kind: api.OpFlip, K: 1, At: 2, X: 3})
	for _, b := range []string{" ", "\t", "  ", "\t\t", " \t", "\t ", "   \t\t\t   ", strings.Repeat(" ", 5000)} {
		words := []string{"flip", "1", "2", "3"}
		wantParse(t, "culvert 64\n"+strings.Join(words, b), want)
		wantParse(t, "culvert 64\n"+b+"flip 1 2 3", want)
		wantParse(t, "culvert 64\nflip 1 2 3"+b, want)
		wantParse(t, "culvert 64\nflip 1 2 3"+b+"\n", want)
		wantParse(t, b+"culvert"+b+"64"+b+"\n"+b+strings.Join(words, b)+b+"\n"+b, want)
		wantParse(t, "culvert 64"+b+"# so\nflip 1 2 3"+b+"#"+b, want)
		wantStepFault(t, "flip1"+b+"2"+b+"3", badWord)
		wantStepFault(t, "flip"+b+"12"+b+"3", badWords)
	}
}

// P22.1: from a # on a line says nothing, whatever bytes stand there; the # stands behind a word without a blank too.
func TestComments(t *testing.T) {
	for b := range 256 {
		if b == '\n' {
			continue
		}
		c := string([]byte{byte(b)})
		for _, comment := range []string{"#" + c, "# " + c + " x", "#" + c + c + "#" + c, " #" + c, "\t# look 2" + c} {
			wantParse(t, "culvert 64\nlook 1"+comment, of(look(1)))
			wantParse(t, "culvert 64\nlook 1"+comment+"\n", of(look(1)))
			wantParse(t, comment+"\nculvert 64"+comment+"\n"+comment+"\nlook 1"+comment+"\n"+comment, of(look(1)))
		}
	}
	wantStep(t, "look 1#2", look(1))
	wantStep(t, "look 1##", look(1))
	wantStepFault(t, "look# 1", badWords)
	wantStepFault(t, "loo#k 1", badWord)
	wantFault(t, "culvert# 64", 1, badWords)
	wantFault(t, "culver#t 64", 1, noScript)
	wantFault(t, "#culvert 64\nlook 1", 2, noScript)
	wantStep(t, "look 1 # one\n# two\n#", look(1))
	wantParse(t, "culvert 64 # one\nlook 1 # two\nlook 2", of(look(1), look(2))) // a comment ends with its line
}

// P22.1: every byte 00 to FF in a word's place, within a word, and where a blank may stand: just 20 and 09 are blanks, and just 21 to 7E but # may be in words.
func TestEveryByte(t *testing.T) {
	for b := range 256 {
		c := string([]byte{byte(b)})
		isWord := 0x21 <= b && b <= 0x7E && c != "#"
		saysNothing := c == " " || c == "\t" || c == "\n" || c == "#"
		word := func(e api.Errno) api.Errno { // what a word of this byte leads to, where it is none that may be
			if isWord {
				return e
			}
			return badText
		}
		switch {
		case saysNothing:
			wantParse(t, c+"\nculvert 64\nlook 1", of(look(1)))
			wantParse(t, "culvert 64\n"+c+"\nlook 1\n"+c, of(look(1)))
			wantParse(t, "culvert 64"+c+"\nlook 1"+c, of(look(1)))
			wantParse(t, "culvert 64\nlook 1 "+c, of(look(1)))
		default:
			wantFault(t, c, 1, word(noScript))
			wantFault(t, c+" 64", 1, word(noScript))
			wantFault(t, "culvert 64 "+c, 1, word(badWords))
			wantFault(t, "culvert 64\n\n"+c, 3, word(badWord))
			wantStepFault(t, c+" 1", word(badWord))
			wantStepFault(t, "look 1 "+c, word(badWords))
			wantStepFault(t, "look "+c+" 1", word(badWords))
			wantStepFault(t, "lo"+c+"ok 1", word(badWord))
			wantStepFault(t, "commit 1 "+c, word(badWord))
			wantStepFault(t, "commit 1 a"+c+"dd", word(badWord))
			wantChangesFault(t, c, word(badWord))
			if c != "," {
				wantChangesFault(t, "remove 1 "+c+" remove 2", word(badWords))
			}
		}
	}
}

// P22.1: bytes that a character is made of, and such that make none, and characters that others take for blanks or digits.
func TestCharacters(t *testing.T) {
	for _, odd := range []string{
		"é", "\u00a0", "\u2003", "\u3000", "\ufeff", "\u0085", "\u2028", "\ufffd", "１", "\u0661", "\U0001F600", "\xc3", "\xa9", "\xc3\x28", "\xed\xa0\x80", "\xf8", "\xff\xfe", "\xc0\xa3", "\xe0\x80\xa3", "\x7f", "\r", "\v", "\f", "\x00", "\x1f", "\x0b",
	} {
		wantFault(t, odd, 1, badText)
		wantFault(t, odd+"culvert 64", 1, badText)
		wantFault(t, "culvert 64"+odd, 1, badText)
		wantFault(t, "culvert"+odd+"64", 1, badText)
		wantStepFault(t, odd, badText)
		wantStepFault(t, "look 1"+odd, badText)
		wantStepFault(t, "look"+odd+"1", badText)
		wantStepFault(t, "look 1"+odd+"#", badText)
		wantStepFault(t, odd+"# so", badText)
		wantStep(t, "look 1#"+odd, look(1))
		wantChangesFault(t, "remove 1"+odd, badText)
		wantParseChanges(t, "remove 1#"+odd, remove(1))
	}
	wantFault(t, "culvert 64\r\nlook 1\r\n", 1, badText)
}

// P22.1: MaxScript bytes are read, one more is too many, whatever they are: that is told ahead of any other fault, and of the line 0.
func TestLongTexts(t *testing.T) {
	for _, begin := range []string{"culvert 64\nlook 1", "culvert 64\nlook 1\n", "\n\n\nculvert 64\n\nlook 1 # "} {
		for _, fill := range []string{"\n", " ", "\t", "\n#", " #", "\n \n"} {
			text := begin + strings.Repeat(fill, maxScript)
			wantParse(t, text[:maxScript-1], of(look(1)))
			wantParse(t, text[:maxScript], of(look(1)))
			wantFault(t, text[:maxScript+1], 0, many)
			wantFault(t, text, 0, many)
		}
	}
	for _, fault := range []string{"", "\x00", "x", "culvert 064", "culvert 64\nlook x", "culvert 64\n\xff"} {
		wantFault(t, fault+strings.Repeat("\n", maxScript+1-len(fault)), 0, many)
		wantFault(t, fault+strings.Repeat("\xff", maxScript+1-len(fault)), 0, many)
	}
	wantFault(t, strings.Repeat("\n", maxScript-1)+"x", maxScript, noScript)
	wantFault(t, strings.Repeat("\n", maxScript)+"x", 0, many)

	data := "culvert 64\nsend 1 "
	data += strings.Repeat("5a", (maxScript-len(data))/2)
	s, line, e := script.Parse(data)
	if e != api.OK || line != 0 || len(s.Ops) != 1 || string(s.Ops[0].Data) != strings.Repeat("Z", (len(data)-18)/2) {
		t.Errorf("Parse of %d bytes, one step: %d, %d", len(data), line, e)
	}
}

// P22.1: the line's number of the first fault, behind lines that say nothing and behind steps.
func TestNumbersOfLines(t *testing.T) {
	for n := range 40 {
		silent := strings.Repeat("\n", n)
		wantFault(t, silent+"look 1", n+1, noScript)
		wantFault(t, silent+"culvert", n+1, badWords)
		wantFault(t, silent+"culvert x", n+1, badNumber)
		wantFault(t, silent+"\x01", n+1, badText)
		wantFault(t, silent+"culvert 1\n"+silent+"\tlook\t", 2*n+2, badWords)
		wantFault(t, silent+"culvert 1 # so\n"+silent+"see 1\nlook x", 2*n+2, badWord)
		steps := strings.Repeat("look 1\n# look x\n", n)
		wantFault(t, "culvert 1\n"+steps+"look x\nlook\n\x00", 2*n+2, badNumber)
		wantFault(t, "culvert 1\n"+steps+"look 1\x00\nlook\nlook x", 2*n+2, badText)
		wantFault(t, "culvert 1\n"+steps+"\n\n\n\nlook 1 1\n", 2*n+6, badWords)
		wantFault(t, "culvert 1\n"+steps+"culvert 1\n", 2*n+2, badWord) // the first line comes once
	}
}

// P22.1: which line's fault is told: that of the first line, whatever the others have, for each two faults.
func TestFirstFault(t *testing.T) {
	faults := map[string]api.Errno{
		"look \x00": badText, "see": badWord, "look": badWords, "look x": badNumber, "send 1 x": badHex, "tick 1 x": badStamp, "commit 1 allow 1 x": badPrefix, "commit 1 ,": badWord, "arm 1 x 1": badWord,
	}
	for one, e := range faults {
		for two := range faults {
			wantFault(t, fmt.Sprintf("culvert 1\nlook 1\n\n%s\n%s\n", one, two), 4, e)
			wantFault(t, fmt.Sprintf("culvert 1\n%s\nlook 1\n\n%s", one, two), 2, e)
		}
		wantFault(t, "culvert x\n"+one, 1, badNumber)
		wantFault(t, "look 1\n"+one, 1, noScript)
	}
}
