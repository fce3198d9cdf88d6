package stamp_test

import (
	"bytes"
	"math"
	"strings"
	"testing"

	"culvert/api"
	"culvert/stamp"
)

func wantNext(t *testing.T, s, want api.Stamp, wantOK bool) {
	t.Helper()
	if got, ok := stamp.Next(s); got != want || ok != wantOK {
		t.Errorf("Next(%v) = %v, %v, want %v, %v", s, got, ok, want, wantOK)
	}
}

func wantPut(t *testing.T, s api.Stamp, want []byte) {
	t.Helper()
	if got := stamp.Put(s); !bytes.Equal(got, want) {
		t.Errorf("Put(%v) = %x, want %x", s, got, want)
	}
}

func wantGet(t *testing.T, b []byte, want api.Stamp, wantErr api.Errno) {
	t.Helper()
	if got, e := stamp.Get(b); got != want || e != wantErr {
		t.Errorf("Get(%x) = %v, %d, want %v, %d", b, got, e, want, wantErr)
	}
}

func wantPrint(t *testing.T, s api.Stamp, want string) {
	t.Helper()
	if got := stamp.Print(s); got != want {
		t.Errorf("Print(%v) = %q, want %q", s, got, want)
	}
}

func wantParse(t *testing.T, text string, want api.Stamp, wantErr api.Errno) {
	t.Helper()
	if got, e := stamp.Parse(text); got != want || e != wantErr {
		t.Errorf("Parse(%.80q) = %v, %d, want %v, %d", text, got, e, want, wantErr)
	}
}

func wantNoText(t *testing.T, text string) {
	t.Helper()
	wantParse(t, text, zero, api.ErrStampForm)
}

// The bounds that the tests write out are those of the document's table.
func TestLimits(t *testing.T) {
	if api.MaxSec != maxSec || api.MaxNano != maxNano || api.ErrStampForm != 60 {
		t.Errorf("MaxSec, MaxNano, ErrStampForm = %d, %d, %d", api.MaxSec, api.MaxNano, api.ErrStampForm)
	}
}

// P6.1: both bounds of both numbers, and what lies beyond them.
func TestValidAtTheBounds(t *testing.T) {
	for _, x := range []struct {
		sec, nano int
		want      bool
	}{
		{0, 0, true}, {1, 1, true}, {1700000000, 123456789, true},
		{maxSec, 0, true}, {maxSec - 1, maxNano, true}, {maxSec, maxNano, true},
		{-1, 0, false}, {-1, maxNano, false}, {math.MinInt, 0, false}, {math.MinInt, maxNano, false},
		{0, maxNano, true}, {0, maxNano + 1, false}, {maxSec, maxNano + 1, false}, {0, math.MaxInt, false},
		{0, -1, false}, {maxSec, -1, false}, {0, math.MinInt, false}, {maxSec, math.MinInt, false},
		{-1, -1, false}, {-1, maxNano + 1, false}, {math.MinInt, math.MinInt, false}, {math.MinInt, math.MaxInt, false},
		{0, 1 << 32, false}, {0, 1<<32 + 1, false}, {5, -1 << 32, false},
	} {
		if got := stamp.Valid(stampOf(x.sec, x.nano)); got != x.want {
			t.Errorf("Valid({%d, %d}) = %v", x.sec, x.nano, got)
		}
	}
}

// P6.1: all pairs of edge numbers.
func TestValidOfAllEdges(t *testing.T) {
	for _, s := range edgePairs() {
		if got := stamp.Valid(s); got != plainValid(s) {
			t.Errorf("Valid(%v) = %v", s, got)
		}
	}
}

// P6.2: seconds first, then nanoseconds; alike ones.
func TestLess(t *testing.T) {
	for _, x := range []struct {
		a, b api.Stamp
		want bool
	}{
		{stampOf(1, 5), stampOf(1, 6), true}, {stampOf(1, 6), stampOf(1, 5), false}, {stampOf(1, 5), stampOf(1, 5), false},
		{stampOf(0, maxNano), stampOf(1, 0), true}, {stampOf(1, 0), stampOf(0, maxNano), false},
		{stampOf(1, 6), stampOf(2, 5), true}, {stampOf(2, 5), stampOf(1, 6), false},
		{zero, zero, false}, {greatest, greatest, false}, {zero, greatest, true}, {greatest, zero, false},
		{stampOf(maxSec, maxNano-1), greatest, true}, {stampOf(maxSec-1, maxNano), stampOf(maxSec, 0), true},
	} {
		if got := stamp.Less(x.a, x.b); got != x.want {
			t.Errorf("Less(%v, %v) = %v", x.a, x.b, got)
		}
	}
}

// P6.2: of two that are no stamps too, with numbers so far from one another that their difference is no int.
func TestLessOfNoStamps(t *testing.T) {
	for _, x := range []struct {
		a, b api.Stamp
		want bool
	}{
		{stampOf(-1, 0), zero, true}, {zero, stampOf(-1, 0), false}, {stampOf(0, -1), zero, true}, {zero, stampOf(0, -1), false},
		{stampOf(-2, 7), stampOf(-1, -7), true}, {stampOf(-1, -7), stampOf(-2, 7), false}, {stampOf(-1, -1), stampOf(-1, -1), false},
		{stampOf(0, maxNano+1), stampOf(1, 0), true}, {stampOf(1, 0), stampOf(0, maxNano+1), false},
		{stampOf(0, maxNano+1), stampOf(0, maxNano+2), true}, {stampOf(0, 2*maxNano), stampOf(1, 1), true},
		{stampOf(math.MinInt, 0), stampOf(math.MaxInt, 0), true}, {stampOf(math.MaxInt, 0), stampOf(math.MinInt, 0), false},
		{stampOf(0, math.MinInt), stampOf(0, math.MaxInt), true}, {stampOf(0, math.MaxInt), stampOf(0, math.MinInt), false},
		{stampOf(math.MinInt, math.MinInt), stampOf(math.MinInt, math.MinInt), false},
	} {
		if got := stamp.Less(x.a, x.b); got != x.want {
			t.Errorf("Less(%v, %v) = %v", x.a, x.b, got)
		}
	}
}

// P6.2: any edge pair against any other one.
func TestLessOfAllEdges(t *testing.T) {
	pairs := edgePairs()
	for _, a := range pairs {
		for _, b := range pairs {
			if got := stamp.Less(a, b); got != (plainOrder(a, b) < 0) {
				t.Fatalf("Less(%v, %v) = %v", a, b, got)
			}
		}
	}
}

// P6.3: one more, into the next second where Nano is full.
func TestNext(t *testing.T) {
	wantNext(t, zero, stampOf(0, 1), true)
	wantNext(t, stampOf(5, 0), stampOf(5, 1), true)
	wantNext(t, stampOf(7, maxNano-1), stampOf(7, maxNano), true)
	wantNext(t, stampOf(7, maxNano), stampOf(8, 0), true)
	wantNext(t, stampOf(0, maxNano), stampOf(1, 0), true)
	wantNext(t, stampOf(maxSec-1, maxNano), stampOf(maxSec, 0), true)
	wantNext(t, stampOf(maxSec, 0), stampOf(maxSec, 1), true)
	wantNext(t, stampOf(maxSec, maxNano-1), greatest, true)
	wantNext(t, greatest, zero, false)
}

// P6.3: of what is no stamp there is none, also where one more would be a stamp.
func TestNextOfNoStamps(t *testing.T) {
	for _, s := range append(noStamps(), stampOf(0, -1), stampOf(-1, maxNano), stampOf(-1, 0), stampOf(0, maxNano+1), stampOf(math.MinInt, maxNano)) {
		wantNext(t, s, zero, false)
	}
}

// P6.4: eight bytes and four, the highest first.
func TestPut(t *testing.T) {
	wantPut(t, stampOf(1, 2), []byte{0, 0, 0, 0, 0, 0, 0, 1, 0, 0, 0, 2})
	wantPut(t, zero, make([]byte, 12))
	wantPut(t, stampOf(0x0102030405060708, 0x090A0B0C), []byte{1, 2, 3, 4, 5, 6, 7, 8, 9, 10, 11, 12})
	wantPut(t, greatest, []byte{0x7F, 0xFF, 0xFF, 0xFF, 0xFF, 0xFF, 0xFF, 0xFF, 0x3B, 0x9A, 0xC9, 0xFF})
	wantPut(t, stampOf(maxSec, 0), []byte{0x7F, 0xFF, 0xFF, 0xFF, 0xFF, 0xFF, 0xFF, 0xFF, 0, 0, 0, 0})
	wantPut(t, stampOf(0, maxNano), []byte{0, 0, 0, 0, 0, 0, 0, 0, 0x3B, 0x9A, 0xC9, 0xFF})
	wantPut(t, stampOf(256, 256), []byte{0, 0, 0, 0, 0, 0, 1, 0, 0, 0, 1, 0})
}

// P6.4: edges and samples, against the library's numbers.
func TestPutOfSamples(t *testing.T) {
	for _, s := range sampleStamps(1) {
		wantPut(t, s, plainPut(s))
	}
}

// P6.4: no bytes of what is no stamp.
func TestPutOfNoStamps(t *testing.T) {
	for _, s := range noStamps() {
		wantPut(t, s, nil)
	}
}

// P6.5: twelve bytes whose numbers are within their bounds, those at the bounds too.
func TestGet(t *testing.T) {
	wantGet(t, []byte{0, 0, 0, 0, 0, 0, 0, 1, 0, 0, 0, 2}, stampOf(1, 2), api.OK)
	wantGet(t, make([]byte, 12), zero, api.OK)
	wantGet(t, []byte{1, 2, 3, 4, 5, 6, 7, 8, 9, 10, 11, 12}, stampOf(0x0102030405060708, 0x090A0B0C), api.OK)
	wantGet(t, []byte{0x7F, 0xFF, 0xFF, 0xFF, 0xFF, 0xFF, 0xFF, 0xFF, 0x3B, 0x9A, 0xC9, 0xFF}, greatest, api.OK)
}

// P6.5: a number beyond its bound, by one and by much.
func TestGetBeyondTheBounds(t *testing.T) {
	for _, b := range [][]byte{
		{0x80, 0, 0, 0, 0, 0, 0, 0, 0, 0, 0, 0},
		{0x80, 0, 0, 0, 0, 0, 0, 1, 0, 0, 0, 2},
		{0xFF, 0xFF, 0xFF, 0xFF, 0xFF, 0xFF, 0xFF, 0xFF, 0, 0, 0, 0},
		{0, 0, 0, 0, 0, 0, 0, 0, 0x3B, 0x9A, 0xCA, 0x00},
		{0, 0, 0, 0, 0, 0, 0, 0, 0x40, 0, 0, 0},
		{0, 0, 0, 0, 0, 0, 0, 0, 0x80, 0, 0, 0},
		{0, 0, 0, 0, 0, 0, 0, 0, 0xFF, 0xFF, 0xFF, 0xFF},
		{0x7F, 0xFF, 0xFF, 0xFF, 0xFF, 0xFF, 0xFF, 0xFF, 0x3B, 0x9A, 0xCA, 0x00},
		bytes.Repeat([]byte{0xFF}, 12),
	} {
		wantGet(t, b, zero, api.ErrStampForm)
	}
}

// P6.5: all lengths but twelve, though what is there would do, and though the rest stands in the spare room.
func TestGetOfOtherLengths(t *testing.T) {
	wantGet(t, nil, zero, api.ErrStampForm)
	wantGet(t, []byte{}, zero, api.ErrStampForm)
	wantGet(t, make([]byte, 1<<20), zero, api.ErrStampForm)
	for _, all := range [][]byte{make([]byte, 40), bytes.Repeat([]byte{1}, 40), bytes.Repeat(plainPut(stampOf(1, 2)), 4)} {
		for n := range len(all) + 1 {
			if n != 12 {
				wantGet(t, all[:n], zero, api.ErrStampForm)
				wantGet(t, bytes.Clone(all[:n]), zero, api.ErrStampForm)
			}
		}
	}
}

// P6.5: each byte of some stamps turned into each other one.
func TestGetOfNearBytes(t *testing.T) {
	for _, s := range []api.Stamp{zero, greatest, stampOf(1, 2), stampOf(0x0102030405060708, maxNano)} {
		b := plainPut(s)
		for i := range b {
			for x := range 256 {
				near := bytes.Clone(b)
				near[i] = byte(x)
				want, e := plainGet(near)
				wantGet(t, near, want, e)
			}
		}
	}
}

// P6.6: no zeros in front of Sec but for 0 itself, nine digits of Nano always.
func TestPrint(t *testing.T) {
	wantPrint(t, stampOf(12, 34), "12.000000034")
	wantPrint(t, zero, "0.000000000")
	wantPrint(t, stampOf(7, 0), "7.000000000")
	wantPrint(t, stampOf(0, 1), "0.000000001")
	wantPrint(t, stampOf(10, 10), "10.000000010")
	wantPrint(t, stampOf(0, 100000000), "0.100000000")
	wantPrint(t, stampOf(0, 99999999), "0.099999999")
	wantPrint(t, stampOf(9, 123456789), "9.123456789")
	wantPrint(t, stampOf(0, maxNano), "0.999999999")
	wantPrint(t, stampOf(maxSec, 0), "9223372036854775807.000000000")
	wantPrint(t, greatest, "9223372036854775807.999999999")
}

// P6.6: numbers of all lengths.
func TestPrintOfSamples(t *testing.T) {
	for nano, power := 1, 1; power <= 9; power++ {
		for _, n := range []int{nano - 1, nano, nano + 1} {
			wantPrint(t, stampOf(power, n), plainPrint(stampOf(power, n)))
		}
		nano *= 10
	}
	for _, s := range sampleStamps(2) {
		wantPrint(t, s, plainPrint(s))
	}
}

// P6.6: no text of what is no stamp.
func TestPrintOfNoStamps(t *testing.T) {
	for _, s := range noStamps() {
		wantPrint(t, s, "")
	}
}

// P6.7: what Print writes.
func TestParse(t *testing.T) {
	wantParse(t, "12.000000034", stampOf(12, 34), api.OK)
	wantParse(t, "0.000000000", zero, api.OK)
	wantParse(t, "0.000000001", stampOf(0, 1), api.OK)
	wantParse(t, "7.000000000", stampOf(7, 0), api.OK)
	wantParse(t, "10.100000000", stampOf(10, 100000000), api.OK)
	wantParse(t, "1234567890.123456789", stampOf(1234567890, 123456789), api.OK)
	wantParse(t, "0.999999999", stampOf(0, maxNano), api.OK)
	wantParse(t, "9223372036854775806.999999999", stampOf(maxSec-1, maxNano), api.OK)
	wantParse(t, "9223372036854775807.000000000", stampOf(maxSec, 0), api.OK)
	wantParse(t, "9223372036854775807.999999999", greatest, api.OK)
}

// P6.7: parts that lack, points that are too many, digits too few or too many.
func TestParseOfWrongForms(t *testing.T) {
	for _, text := range []string{
		"", ".", "..", "0", "1", "12", "12.", ".000000034", ".000000000", ".0", "000000000", "1000000000", "12000000034",
		"12.34", "12.00000034", "12.0000000034", "12.0000000340", "1.0000000000", "0.0", "0.00000000", "0.0000000000",
		"1.1000000000", "1.9999999999", "1.0000000001", "1.00000000100000000000",
		"12..000000034", "12.000000034.", ".12.000000034", "1.2.000000034", "12.0000.00034", "12.0.00000034", "12.000.000034", "1.000000000.000000000",
	} {
		wantNoText(t, text)
	}
}

// P6.7: zeros in front are no part of the form, however many.
func TestParseOfZerosInFront(t *testing.T) {
	for _, text := range []string{"00.000000000", "01.000000000", "012.000000034", "0012.000000034", "09223372036854775807.000000000"} {
		wantNoText(t, text)
	}
	for _, n := range []int{18, 19, 20, 100, 1 << 20} {
		wantNoText(t, strings.Repeat("0", n)+".000000000")
		wantNoText(t, strings.Repeat("0", n)+"1.000000000")
	}
}

// P6.7: signs that are no digits, in front, behind, and in both numbers.
func TestParseOfOtherSigns(t *testing.T) {
	for _, sign := range []string{
		"+", "-", " ", "\t", "\n", "\r", "\x00", "_", ",", ":", "/", "e", "x", "a", "'", "\u00a0", "\u2003", "\ufeff", "\u2212",
		"\u0661", "\uff11", "\u00b2", "\u0966", "\U0001d7cf", "\uff0e", "\u3002", "\ufffd", // digits and points of other scripts
		"\u0130", "\u012e", "\U00010030", "\u0230", // their lowest bytes are those of a digit or a point
		"\x80", "\xbf", "\xff", "\xc0\xae", "\xc0\xb1", "\xe0\x80\xb1", "\xed\xa0\x80", "\xf4\x90\x80\x80", "\xc3", "\xf0\x9d\x9f", // no UTF-8
	} {
		for _, text := range []string{
			sign, sign + "1.000000000", "1.000000000" + sign, "1" + sign + ".000000000", "1." + sign + "000000000", "1.0000" + sign + "00000",
			"1.0000" + sign + "0000", "1." + sign + "00000000", "1" + sign + "000000000", "1" + sign + "2.000000000", sign + ".000000000", "1." + sign,
			"1.00000000" + sign, sign + "12.000000034" + sign, strings.Repeat(sign, 11), strings.Repeat(sign, 9) + ".000000000", "0." + strings.Repeat(sign, 9),
		} {
			wantNoText(t, text)
		}
	}
	for _, text := range []string{"-0.000000000", "+0.000000000", "-1.000000000", "-9223372036854775808.000000000", "0x1.000000000", "1e3.000000000", "1_0.000000000", "0.-00000001", "0.+00000001", "0. 00000001", "Inf.000000000", "NaN"} {
		wantNoText(t, text)
	}
}

// P6.7: Sec at its bound, one above, and where its digits wrap round once or often.
func TestParseOfGreatSec(t *testing.T) {
	wantParse(t, "9223372036854775807.000000001", stampOf(maxSec, 1), api.OK)
	for _, sec := range []string{
		"9223372036854775808", "9223372036854775809", "9223372036854775810", "9223372036854775817", "9223372036854775900", "9300000000000000000", "9999999999999999999",
		"10000000000000000000", "18446744073709551615", "18446744073709551616", "18446744073709551617", "27670116110564327424", "92233720368547758070",
		"99999999999999999999", "184467440737095516160", "340282366920938463463374607431768211456", "340282366920938463463374607431768211457",
	} {
		wantNoText(t, sec+".000000000")
		wantNoText(t, sec)
	}
	for _, n := range []int{19, 20, 21, 40, 1000, 1 << 20} {
		wantNoText(t, "1"+strings.Repeat("0", n)+".000000000")
		wantNoText(t, strings.Repeat("9", n)+".000000000")
		wantNoText(t, "0."+strings.Repeat("0", n))
		wantNoText(t, "0."+strings.Repeat("9", n))
		wantNoText(t, strings.Repeat(".", n))
	}
}

// allTexts are all texts of at most n of these signs.
func allTexts(signs string, n int) []string {
	out, last := []string{""}, []string{""}
	for range n {
		var longer []string
		for _, text := range last {
			for _, sign := range signs {
				longer = append(longer, text+string(sign))
			}
		}
		out, last = append(out, longer...), longer
	}
	return out
}

// P6.7: all texts of few signs, alone and as parts of texts of the form's length.
func TestParseOfShortTexts(t *testing.T) {
	for _, text := range allTexts("0.19-", 4) {
		for _, whole := range []string{text, text + ".000000000", "0." + text, "0.00000" + text, text + "00000000", "922337203685477580" + text + ".000000000"} {
			want, e := plainParse(whole)
			wantParse(t, whole, want, e)
		}
	}
}

// P6.7: texts one sign away from a stamp's: one left out, one put in, one changed, two exchanged.
func TestParseOfNearTexts(t *testing.T) {
	signs := []string{"0", "1", "8", "9", ".", "+", "-", " ", "/", ":", "\x00", "\xff", "\u0661"}
	for _, s := range []api.Stamp{zero, greatest, stampOf(12, 34), stampOf(1, 0), stampOf(maxSec, 0), stampOf(10, 100000000)} {
		text := plainPrint(s)
		near := []string{text}
		for i := range len(text) + 1 {
			for _, sign := range signs {
				near = append(near, text[:i]+sign+text[i:])
				if i < len(text) {
					near = append(near, text[:i]+sign+text[i+1:])
				}
			}
			if i < len(text) {
				near = append(near, text[:i], text[i:], text[:i]+text[i+1:])
			}
			if i+1 < len(text) {
				near = append(near, text[:i]+text[i+1:i+2]+text[i:i+1]+text[i+2:])
			}
		}
		for _, x := range near {
			want, e := plainParse(x)
			wantParse(t, x, want, e)
		}
	}
}
