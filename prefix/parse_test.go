package prefix_test

import (
	"fmt"
	"strings"
	"testing"

	"culvert/api"
	"culvert/prefix"
)

const (
	zeros6 = "0000:0000:0000:0000:0000:0000:0000:0000"
	ones6  = "ffff:ffff:ffff:ffff:ffff:ffff:ffff:ffff"
)

// P7.7: what PrintAddr writes.
func TestParseAddr(t *testing.T) {
	wantParseAddr(t, "10.1.2.3", addr4(0x0A010203), api.OK)
	wantParseAddr(t, "0.0.0.0", addr4(0), api.OK)
	wantParseAddr(t, "255.255.255.255", addr4(max32), api.OK)
	wantParseAddr(t, "100.10.99.1", addr4(0x640A6301), api.OK)
	wantParseAddr(t, zeros6, addr6(0, 0), api.OK)
	wantParseAddr(t, ones6, addr6(max64, max64), api.OK)
	wantParseAddr(t, "2001:0db8:0000:0000:0000:0000:0000:0001", addr6(0x20010DB8<<32, 1), api.OK)
	wantParseAddr(t, "0123:4567:89ab:cdef:f00f:0ff0:0001:0010", addr6(0x0123456789ABCDEF, 0xF00F0FF000010010), api.OK)
	wantParseAddr(t, "1000:0000:0000:0000:0000:0000:0000:0000", addr6(1<<60, 0), api.OK)
}

// P7.7: what Print writes.
func TestParse(t *testing.T) {
	wantParse(t, "10.1.0.0/16", prefix4(0x0A010000, 16), api.OK)
	wantParse(t, "0.0.0.0/0", prefix4(0, 0), api.OK)
	wantParse(t, "0.0.0.0/32", prefix4(0, 32), api.OK)
	wantParse(t, "255.255.255.255/32", prefix4(max32, 32), api.OK)
	wantParse(t, "255.255.255.254/31", prefix4(max32-1, 31), api.OK)
	wantParse(t, "128.0.0.0/1", prefix4(1<<31, 1), api.OK)
	wantParse(t, "fd00:0000:0000:0000:0000:0000:0000:0000/8", prefix6(0xFD00<<48, 0, 8), api.OK)
	wantParse(t, zeros6+"/0", prefix6(0, 0, 0), api.OK)
	wantParse(t, zeros6+"/32", prefix6(0, 0, 32), api.OK)
	wantParse(t, zeros6+"/33", prefix6(0, 0, 33), api.OK)
	wantParse(t, zeros6+"/100", prefix6(0, 0, 100), api.OK)
	wantParse(t, ones6+"/128", prefix6(max64, max64, 128), api.OK)
}

// P7.7: one call's texts are not the other one's.
func TestParseOfTheOtherKind(t *testing.T) {
	for _, a := range sampleAddrs(11) {
		wantParse(t, plainPrintAddr(a), none, api.ErrPrefixForm)
	}
	for _, p := range samplePrefixes(12) {
		wantParseAddr(t, plainPrint(p), noneAddr, api.ErrPrefixForm)
	}
}

// P7.7: parts too few, too many, and empty ones.
func TestParseOfWrongParts(t *testing.T) {
	for _, text := range []string{
		"", ".", "..", "...", "....", "0", "1", "10", "1.2", "1.2.3", "1.2.3.", ".1.2.3", "1..2.3", "1.2..3", "1.2.3.4.", ".1.2.3.4", "1.2..3.4", "1.2.3.4.5", "0.1.2.3.4", "0.0.0.0.0", "1.2.3.4.5.6.7.8", "0.0.0.0.1.2.3.4",
		"0.0.0.0.0.0.0.0.1.2.3.4", "167772161", "1.65536", "1.2.772", "1,2,3,4", "1.2.3,4", "1:2:3:4", "1.2.3:4", "1:2.3.4",
		":", "::", ":::", ":::::::", "::::::::", "::1", "::0000", "2001:db8::1", "2001::", "fd00::", "0000", "0000:", ":0000", "00000000000000000000000000000000",
		"0000:0000:0000:0000:0000:0000:0000", "0000:0000:0000:0000:0000:0000:0000:", ":0000:0000:0000:0000:0000:0000:0000", "0000:0000:0000::0000:0000:0000:0000",
		zeros6 + ":", ":" + zeros6, zeros6 + ":0000", "0000:" + zeros6, zeros6 + "::", zeros6 + ":" + zeros6, ones6 + ":0000", "0000:" + ones6,
		"0000:0000:0000:0000:0000:0000:0.0.0.0", "0000:0000:0000:0000:0000:ffff:10.1.2.3", "::ffff:10.1.2.3", "0000.0000.0000.0000.0000.0000.0000.0000", "[" + zeros6 + "]", zeros6 + "%1", "0000-0000-0000-0000-0000-0000-0000-0000",
		"0.0.0.0" + zeros6, "0.0.0.0:0000", zeros6 + ".0", "0.0.0.0:0.0.0.0", "0000:0000:0000:0000:0000.0000:0000:0000",
	} {
		wantNoAddrText(t, text)
	}
}

// P7.7: numbers at and beyond the greatest one, with zeros ahead, and such that wrap round.
func TestParseOfWrongNumbers(t *testing.T) {
	wantParseAddr(t, "255.0.0.0", addr4(0xFF000000), api.OK)
	wantParseAddr(t, "0.0.0.255", addr4(255), api.OK)
	for _, part := range []string{
		"256", "257", "260", "300", "999", "1000", "2550", "65536", "4294967296", "4294967297", "18446744073709551616", "18446744073709551617", "340282366920938463463374607431768211456",
		"00", "01", "010", "001", "0255", "0000", "08", "0x1", "0X1", "0b1", "0o7", "1e1", "1_0", "a", "ff", "A", "-1", "-0", "+1", "+0", "+", "-", " 1", "1 ", "", " ", "1\n", "\t1", "1.", "\x00",
		strings.Repeat("0", 100), strings.Repeat("9", 100), strings.Repeat("1", 1<<20), strings.Repeat("0", 1<<20) + "1",
	} {
		for _, text := range []string{part + ".0.0.0", "0." + part + ".0.0", "0.0." + part + ".0", "0.0.0." + part, part + "." + part + "." + part + "." + part} {
			wantNoAddrText(t, text)
		}
	}
	for _, part := range []string{
		"", "0", "00", "000", "00000", "1", "01", "001", "00001", "10000", "0ffff", "fffff", "1ffff", "fff", "ffffffff", "ABCD", "abcD", "Abcd", "FFFF", "000A", "000F", "000g", "000G", "0x00", "0X0f", "0x0000", "+000", "-000", "+0000", "-0000", "-001", " 000", "000 ", " 0000", "0000 ", "0_00", "00_00",
		"1e+1", "000\x00", "\xff\xff\xff\xff", strings.Repeat("0", 1<<20), strings.Repeat("f", 1<<20),
	} {
		for at := range 8 {
			pairs := strings.Split(zeros6, ":")
			pairs[at] = part
			wantNoAddrText(t, strings.Join(pairs, ":"))
		}
	}
}

// P7.7: Bits at and beyond both bounds, with zeros ahead, with signs, and none.
func TestParseOfWrongBits(t *testing.T) {
	for _, bad := range []string{
		"", "00", "000", "016", "01", "-0", "-1", "+0", "+1", "+8", " 8", "8 ", "8\n", "\t8", "0x8", "1e1", "1_0", "8.", "8.0", ".8", "a", "f", "8/", "/8", "8/8", "0/0", "8:", "8\x00", "\xff", "\u0668",
		"129", "130", "200", "255", "256", "257", "264", "288", "384", "999", "1000", "65536", "65544", "4294967296", "4294967304", "9223372036854775807", "9223372036854775808", "18446744073709551616", "18446744073709551624", "340282366920938463463374607431768211456", "-9223372036854775808", "-248", "-256",
		strings.Repeat("0", 1<<20), strings.Repeat("1", 1<<20),
	} {
		wantNoText(t, "0.0.0.0/"+bad)
		wantNoText(t, zeros6+"/"+bad)
	}
	for n := 33; n <= 128; n++ {
		wantNoText(t, prefixText(addr4(0), n))
		wantParse(t, prefixText(addr6(0, 0), n), prefix6(0, 0, n), api.OK)
	}
}

// prefixText is an address's text and a number of Bits, right or not.
func prefixText(a api.Addr, n int) string {
	return fmt.Sprintf("%s/%d", plainPrintAddr(a), n)
}

// P7.7: no stroke, two of them, one at a wrong place, other ones.
func TestParseOfWrongStrokes(t *testing.T) {
	for _, text := range []string{
		"/", "//", "/0", "/8", "0/", "0/0", "10.1.0.0/", "10.1.0.0//16", "10.1.0.0/16/", "/10.1.0.0/16", "10.1.0.0/16/16", "10.1.0.0/16/0", "10.1.0.0\\16", "10.1.0.0 16", "10.1.0.0:16", "10.1.0.0.16", "10.1.0.016",
		"10.1.0.0|16", "10.1.0.0 /16", "10.1.0.0/ 16", " 10.1.0.0/16", "10.1.0.0/16 ", "10.1.0.0/16\n", "10.1.0.0/16x", "10.1.0.0/16.0", "10.1.0.0/255.255.0.0", "10.1.0.0/10.1.0.0", "10.1/16", "10/8", "10./8", "10.1.0/16", "10.1.0.0.0/16",
		"10.1/0.0", "10/1.0.0/16", "16/10.1.0.0", "10.1.0.0\u221516", "10.1.0.0\uff0f16",
		zeros6 + "/", zeros6 + "//8", zeros6 + "/8/", "/" + zeros6, "/" + zeros6 + "/8", zeros6 + "/" + zeros6, zeros6 + ":8", "::/0", "fd00::/8", "0000/0", "0000:/0",
		strings.Repeat("/", 1<<20), "0.0.0.0" + strings.Repeat("/0", 1<<18),
	} {
		wantNoText(t, text)
	}
}

// P7.7: a bit behind the first Bits makes no prefix, though the address is one.
func TestParseOfBitsBehind(t *testing.T) {
	for _, text := range []string{"10.1.0.1/16", "10.1.128.0/16", "10.1.0.0/15", "0.0.0.1/31", "0.0.0.1/0", "128.0.0.0/0", "255.255.255.255/31", "255.255.255.255/0"} {
		wantNoText(t, text)
	}
	for _, width := range []int{32, 128} {
		for n := range width {
			with := addrOf(strings.Repeat("1", n) + "1" + strings.Repeat("0", width-n-1))
			last := addrOf(strings.Repeat("1", n) + strings.Repeat("0", width-n-1) + "1")
			for _, a := range []api.Addr{with, last} {
				wantNoText(t, prefixText(a, n))
				wantParse(t, prefixText(a, width), api.Prefix{Addr: a, Bits: width}, api.OK)
			}
		}
	}
	for _, p := range noPrefixes() {
		wantNoText(t, prefixText(p.Addr, p.Bits))
	}
}

// P7.7: signs that are no digits, of other scripts, or no UTF-8, put in at every place and taken for every sign.
func TestParseOfOtherSigns(t *testing.T) {
	for _, sign := range []string{
		"+", "-", " ", "\t", "\n", "\r", "\x00", "_", ",", "g", "x", "A", "F", "'", "\"", "*", "@", "`", ";", "\u00a0", "\u2003", "\ufeff", "\u2212",
		"\u0661", "\uff11", "\u00b2", "\u0966", "\U0001d7cf", "\uff0e", "\u3002", "\ufffd", "\uff41", "\u0430", // digits, points and letters of other scripts
		"\u0130", "\u012e", "\u013a", "\u012f", "\u0161", "\U00010030", // their lowest bytes are those of signs that texts have
		"\x80", "\xbf", "\xff", "\xc0\xae", "\xc0\xb1", "\xe0\x80\xb1", "\xed\xa0\x80", "\xf4\x90\x80\x80", "\xc3", "\xf0\x9d\x9f", // no UTF-8
	} {
		for _, text := range []string{"10.1.0.0/16", "0.0.0.0", "1.2.3.4", "abcd:0123:0000:0000:0000:0000:0000:0000/64", ones6} {
			for at := range len(text) + 1 {
				wantNoText(t, text[:at]+sign+text[at:])
				if at < len(text) {
					wantNoText(t, text[:at]+sign+text[at+1:])
				}
			}
		}
		wantNoText(t, sign)
		wantNoText(t, strings.Repeat(sign, 11))
	}
}

// allTexts are all texts of at most n of these signs.
func allTexts(signs string, n int) []string {
	out, last := []string{""}, []string{""}
	for range n {
		var longer []string
		for _, text := range last {
			for _, sign := range signs {
				longer = append(longer, text+string(sign))
			}
		}
		out, last = append(out, longer...), longer
	}
	return out
}

// asPlain holds both calls against the plain words.
func asPlain(t *testing.T, text string) {
	t.Helper()
	a, e := plainParseAddr(text)
	wantParseAddr(t, text, a, e)
	p, e := plainParse(text)
	wantParse(t, text, p, e)
}

// P7.7: all texts of few signs, alone and as parts of texts that would be whole with the right ones.
func TestParseOfShortTexts(t *testing.T) {
	for _, text := range allTexts("0.1/2:", 4) {
		asPlain(t, text)
		for _, whole := range []string{text + ".0.0.0", "0.0.0." + text, "0.0" + text, "0.0.0.0" + text, "0.0.0.0/" + text, "25" + text, "0.0.0.25" + text + "/32", text + "/0", zeros6 + text, zeros6[:35] + text, text + zeros6[4:]} {
			asPlain(t, whole)
		}
	}
}

// P7.7: all parts of at most three digits at each of the four places, and all Bits of at most three.
func TestParseOfAllParts(t *testing.T) {
	for _, part := range allTexts("0123456789", 3) {
		for _, text := range []string{part + ".2.3.4", "1." + part + ".3.4", "1.2." + part + ".4", "1.2.3." + part, "0.0.0.0/" + part, zeros6 + "/" + part} {
			asPlain(t, text)
		}
	}
}

// P7.7: texts one sign away from a right one: one left out, one put in, one changed, two exchanged.
func TestParseOfNearTexts(t *testing.T) {
	signs := []string{"0", "1", "2", "5", "6", "9", "a", "f", "F", "g", ".", ":", "/", "-", "+", " ", "\xff"}
	for _, text := range []string{"0.0.0.0/0", "10.1.0.0/16", "255.255.255.255/32", "1.20.255.0", "199.9.25.100", zeros6 + "/0", ones6 + "/128", "0123:4567:89ab:cdef:f00f:0ff0:0001:0010", "2001:0db8:0000:0000:0000:0000:0000:0000/32"} {
		for i := range len(text) + 1 {
			for _, sign := range signs {
				asPlain(t, text[:i]+sign+text[i:])
				if i < len(text) {
					asPlain(t, text[:i]+sign+text[i+1:])
				}
			}
			if i < len(text) {
				asPlain(t, text[:i]+text[i+1:])
				asPlain(t, text[:i])
				asPlain(t, text[i:])
			}
			if i+1 < len(text) {
				asPlain(t, text[:i]+text[i+1:i+2]+text[i:i+1]+text[i+2:])
			}
		}
	}
}

// P7.7: big letters in a text that is right but for them.
func TestParseOfBigLetters(t *testing.T) {
	for _, a := range sampleAddrs(13) {
		text := plainPrintAddr(a)
		if big := strings.ToUpper(text); big != text {
			wantNoAddrText(t, big)
		}
	}
}

// P7.7, P0.1: a text of very many parts is refused too.
func TestParseOfLongTexts(t *testing.T) {
	for _, n := range []int{100, 1 << 18} {
		for _, part := range []string{"0.", "1.", ".", ":", "0000:", "ffff:", "0", "f", "9", "0.0.0.0/", "é"} {
			text := strings.Repeat(part, n)
			wantNoText(t, text)
			wantNoText(t, text+"0.0.0.0")
			wantNoText(t, text+zeros6)
			wantNoText(t, "0.0.0.0"+text)
			wantNoText(t, "0.0.0.0/0"+text)
		}
	}
	if _, e := prefix.ParseAddr(strings.Repeat("0.", 1<<21) + "0"); e != api.ErrPrefixForm {
		t.Errorf("ParseAddr of very many zeros: %d", e)
	}
}
