package script_test

import (
	"fmt"
	"strings"
	"testing"

	"culvert/api"
)

// numbers that may be, each with its only word.
func numbers() map[string]int {
	out := map[string]int{}
	for n := range 1200 {
		out[fmt.Sprint(n)] = n
	}
	for shift := 10; shift <= 31; shift++ {
		for _, n := range []int{1<<shift - 1, 1 << shift, 1<<shift + 1} {
			out[fmt.Sprint(n)] = n
		}
	}
	for n := 1; n <= maxNumber; n *= 10 {
		out[fmt.Sprint(n)], out[fmt.Sprint(n-1)] = n, n-1
	}
	out["4294967294"], out["4294967295"] = maxNumber-1, maxNumber
	return out
}

// noNumbers are words that are none.
func noNumbers() []string {
	out := []string{
		"00", "01", "064", "000", "00000000000000000000", "04294967295", "0000000000000000000000001",
		"4294967296", "4294967297", "4294967300", "5000000000", "9999999999", "10000000000", "42949672950", "42949672960",
		"9223372036854775807", "9223372036854775808", "18446744073709551615", "18446744073709551616", "18446744073709551617", "18446744073709551680", "79228162514264337593543950336", "340282366920938463463374607431768211456",
		"+0", "-0", "+1", "-1", "+64", "-64", "--1", "+", "-", "-4294967295", "-18446744073709551615",
		"x", "a", "A", "f", "0x1", "0X1", "0b1", "0o1", "1e1", "1.0", "1.", ".1", "1_0", "1,0", "1,", ",1", "'1'", "\"1\"", "1x", "x1", "1/1", "1:1", "1-", "1+", "~", "!", "64k", "one", "1;",
		"/", ":", "0/", "0:", "culvert", ",",
	}
	for _, n := range []int{11, 19, 20, 21, 100, 5000} {
		out = append(out, strings.Repeat("1", n), strings.Repeat("9", n), "1"+strings.Repeat("0", n), strings.Repeat("0", n)+"1")
	}
	return out
}

// P22.1: the first line with words, at all numbers that may be.
func TestFirstLine(t *testing.T) {
	for word, n := range numbers() {
		wantParse(t, "culvert "+word, api.Script{Sectors: n})
		wantParse(t, "\t\n# so\n culvert\t"+word+" #\nrun 1", api.Script{Sectors: n, Ops: []api.Op{{Kind: api.OpRun, K: 1}}})
	}
}

// P22.1: words that are no numbers.
func TestFirstLineWithoutNumber(t *testing.T) {
	for _, word := range noNumbers() {
		wantFault(t, "culvert "+word, 1, badNumber)
		wantFault(t, "\n\nculvert "+word+"\nrun x", 3, badNumber)
	}
}

// P22.1: the first word, and how many there are; ErrScript is told ahead of ErrWords, and that ahead of ErrNumber.
func TestFirstLineWords(t *testing.T) {
	for _, word := range []string{
		"run", "look", "Culvert", "CULVERT", "culver", "culvertt", "xculvert", "culvert:", "culvert,", "-culvert", "culvert64", "64", "-", ",", "c", "culvert\\", "\"culvert\"",
	} {
		for _, behind := range []string{"", " 64", " 064", " 64 1", " culvert", " culvert 64", " x y z"} {
			wantFault(t, word+behind, 1, noScript)
			wantFault(t, word+behind+"\nculvert 64", 1, noScript)
		}
	}
	for _, line := range []string{"culvert", "culvert 64 1", "culvert 064 1", "culvert x y", "culvert 64 64 64", "culvert culvert culvert", "culvert 1 run 1", "culvert " + strings.Repeat("1 ", 1000)} {
		wantFault(t, line, 1, badWords)
		wantFault(t, " \n"+line+"\nrun", 2, badWords)
	}
	wantFault(t, "culvert culvert", 1, badNumber)
	for _, line := range []string{"\x00", "run \x00", "culvert \x00", "culvert 1 2 \x00", "culvert x\x00"} { // the text is asked ahead of all
		wantFault(t, line, 1, badText)
	}
}

// P22.1: the first line is just the first one with words.
func TestFirstLineOnce(t *testing.T) {
	wantFault(t, "culvert 64\nculvert 64", 2, badWord)
	wantFault(t, "culvert 64\n\nculvert", 3, badWord)
	wantFault(t, "run 1\nculvert 64", 1, noScript)
	wantParse(t, "culvert 0\nrun 1", api.Script{Ops: []api.Op{{Kind: api.OpRun, K: 1}}})
}
