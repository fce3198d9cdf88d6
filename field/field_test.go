package field_test

import (
	"encoding/hex"
	"math/rand/v2"
	"testing"

	"culvert/field"
)

// blockOne is the polynomial 1.
var blockOne = [16]byte{0x80}

// hexBlock reads a block that is written out.
func hexBlock(t *testing.T, text string) [16]byte {
	t.Helper()
	b, err := hex.DecodeString(text)
	if err != nil || len(b) != 16 {
		t.Fatalf("%q is no block", text)
	}
	return [16]byte(b)
}

// bitBlock is the block whose coefficient of X^i alone is 1.
func bitBlock(i int) [16]byte {
	var x [16]byte
	x[i/8] = 0x80 >> (i % 8)
	return x
}

// someBlocks makes n blocks that are the same at every run.
func someBlocks(seed uint64, n int) [][16]byte {
	r := rand.New(rand.NewPCG(seed, uint64(n)))
	out := make([][16]byte, n)
	for i := range out {
		for j := range out[i] {
			out[i][j] = byte(r.Uint32())
		}
	}
	return out
}

// edgeBlocks are zero, blocks with one bit at both ends and where two bytes and two halves meet, pairs of such bits, and full ones.
func edgeBlocks() [][16]byte {
	out := [][16]byte{{}, {0xE1}, {0x80, 15: 1}, {7: 1, 8: 0x80}, {0: 1, 1: 0x80}, {14: 1, 15: 0x80}}
	for _, i := range []int{0, 1, 2, 6, 7, 8, 9, 15, 16, 63, 64, 119, 120, 121, 126, 127} {
		out = append(out, bitBlock(i))
	}
	var full [16]byte
	for i := range full {
		full[i] = 0xFF
	}
	return append(out, full)
}

// countedBlock has the byte first and then each byte step more than the one ahead.
func countedBlock(first, step int) [16]byte {
	var x [16]byte
	for i := range x {
		x[i] = byte(first + step*i)
	}
	return x
}

func wantByte(t *testing.T, what string, got, want byte) {
	t.Helper()
	if got != want {
		t.Errorf("%s = %02X, want %02X", what, got, want)
	}
}

func wantBlock(t *testing.T, what string, got, want [16]byte) {
	t.Helper()
	if got != want {
		t.Errorf("%s = %X, want %X", what, got, want)
	}
}

// P3.1: the chapter's examples, and products that FIPS 197 names.
func TestMul8OfKnownBytes(t *testing.T) {
	for _, c := range []struct{ a, b, want byte }{
		{0x3C, 0xA5, 0x24},
		{0x90, 0x90, 0x81},
		{0x02, 0x80, 0x1B},
		{0x80, 0x02, 0x1B},
		{0x00, 0x55, 0x00},
		{0x55, 0x00, 0x00},
		{0x01, 0x55, 0x55},
		{0x55, 0x01, 0x55},
		{0x57, 0x83, 0xC1},
		{0x57, 0x13, 0xFE},
		{0x57, 0x02, 0xAE},
		{0x57, 0x04, 0x47},
	} {
		if got := field.Mul8(c.a, c.b); got != c.want {
			t.Errorf("Mul8(%02X, %02X) = %02X, want %02X", c.a, c.b, got, c.want)
		}
	}
}

// P3.1: each product of two bytes, as polynomials are multiplied and brought down.
func TestMul8OfAllBytes(t *testing.T) {
	for a := range 256 {
		for b := range 256 {
			if got, want := field.Mul8(byte(a), byte(b)), plainMul8(byte(a), byte(b)); got != want {
				t.Fatalf("Mul8(%02X, %02X) = %02X, want %02X", a, b, got, want)
			}
		}
	}
}

// P3.2: the chapter's examples, and the one that FIPS 197 names.
func TestInv8OfKnownBytes(t *testing.T) {
	wantByte(t, "Inv8(00)", field.Inv8(0x00), 0x00)
	wantByte(t, "Inv8(01)", field.Inv8(0x01), 0x01)
	wantByte(t, "Inv8(02)", field.Inv8(0x02), 0x8D)
	wantByte(t, "Inv8(3C)", field.Inv8(0x3C), 0x77)
	wantByte(t, "Inv8(FF)", field.Inv8(0xFF), 0x1C)
	wantByte(t, "Inv8(53)", field.Inv8(0x53), 0xCA)
}

// P3.2: each byte's inverse, its product reckoned by the chapter's words.
func TestInv8OfAllBytes(t *testing.T) {
	for a := 1; a < 256; a++ {
		inverse := field.Inv8(byte(a))
		if got := plainMul8(byte(a), inverse); got != 1 {
			t.Errorf("%02X times Inv8 of it, %02X, is %02X", a, inverse, got)
		}
	}
}

// P3.3: each two bytes, at each place, with other bytes at all places beside it.
func TestXorOfAllBytesAtAllPlaces(t *testing.T) {
	for place := range 16 {
		x, y := countedBlock(1, 1), countedBlock(0xC8, 3)
		want := [16]byte{0xC9, 0xC9, 0xCD, 0xD5, 0xD1, 0xD1, 0xDD, 0xD5, 0xE9, 0xE9, 0xED, 0xE5, 0xE1, 0xE1, 0xFD, 0xE5}
		for a := range 256 {
			for b := range 256 {
				x[place], y[place], want[place] = byte(a), byte(b), byte(a|b)-byte(a&b)
				if got := field.Xor(x, y); got != want {
					t.Fatalf("Xor(%X, %X) = %X, want %X", x, y, got, want)
				}
			}
		}
	}
}

// P3.3: sums with zero, of a block with itself, and turned round.
func TestXorOfEdgeBlocks(t *testing.T) {
	blocks := append(edgeBlocks(), someBlocks(1, 20)...)
	for _, x := range blocks {
		wantBlock(t, "x and zero", field.Xor(x, [16]byte{}), x)
		wantBlock(t, "zero and x", field.Xor([16]byte{}, x), x)
		wantBlock(t, "x and x", field.Xor(x, x), [16]byte{})
		for _, y := range blocks {
			wantBlock(t, "x and y and y", field.Xor(field.Xor(x, y), y), x)
			wantBlock(t, "y and x", field.Xor(y, x), field.Xor(x, y))
		}
	}
}

// P3.4: the chapter's examples, and the products of the specification of GCM (its test cases 2 and 4).
func TestMul128OfKnownBlocks(t *testing.T) {
	y := countedBlock(0xC8, 3)
	wantBlock(t, "one times y", field.Mul128(blockOne, y), y)
	wantBlock(t, "X times X^127", field.Mul128([16]byte{0x40}, [16]byte{15: 1}), [16]byte{0xE1})
	wantBlock(t, "the counted blocks", field.Mul128(countedBlock(1, 1), y), hexBlock(t, "128F06283777494D4040F2229D16BCD3"))
	for _, c := range []struct{ x, h, want string }{
		{"0388dace60b6a392f328c2b971b2fe78", "66e94bd4ef8a2c3b884cfa59ca342b2e", "5e2ec746917062882c85b0685353deb7"},
		{"feedfacedeadbeeffeedfacedeadbeef", "b83b533708bf535d0aa6e52980d53b78", "ed56aaf8a72d67049fdb9228edba1322"},
	} {
		wantBlock(t, c.x, field.Mul128(hexBlock(t, c.x), hexBlock(t, c.h)), hexBlock(t, c.want))
	}
}

// P3.4: X^i times X^j, for each two of them: the blocks with one bit alone, those that are brought down among them.
func TestMul128OfAllSingleBits(t *testing.T) {
	for i := range 128 {
		for j := range 128 {
			if got, want := field.Mul128(bitBlock(i), bitBlock(j)), plainMul128(bitBlock(i), bitBlock(j)); got != want {
				t.Fatalf("X^%d times X^%d = %X, want %X", i, j, got, want)
			}
		}
	}
}

// P3.4: a product whose sum of places is below 128 is one bit again; at 128 and at the highest place it is brought down.
func TestMul128AtTheModulus(t *testing.T) {
	for i := range 128 {
		wantBlock(t, "X^i times X^(127-i)", field.Mul128(bitBlock(i), bitBlock(127-i)), [16]byte{15: 1})
	}
	for i := 1; i < 128; i++ {
		wantBlock(t, "X^i times X^(128-i)", field.Mul128(bitBlock(i), bitBlock(128-i)), [16]byte{0xE1})
	}
	// X^254 is X^126 times X^7 + X^2 + X + 1, and of that X^133, X^128 are brought down once more: X^12 + X^7 + X^6 + X^5 and X^7 + X^2 + X + 1; X^127 and X^126 stay.
	wantBlock(t, "X^127 times X^127", field.Mul128(bitBlock(127), bitBlock(127)), [16]byte{0xE6, 0x08, 15: 0x03})
}

// P3.4: each two of the edges and of some other blocks, as polynomials are multiplied and brought down.
func TestMul128OfManyBlocks(t *testing.T) {
	blocks := append(edgeBlocks(), someBlocks(2, 40)...)
	for _, x := range blocks {
		for _, y := range blocks {
			if got, want := field.Mul128(x, y), plainMul128(x, y); got != want {
				t.Fatalf("Mul128(%X, %X) = %X, want %X", x, y, got, want)
			}
		}
	}
}

// P0.3, P0.4: the blocks that are handed in stay as they are, one block may be handed in as both, and the same arguments have the same answer.
func TestBlocksHandedInStay(t *testing.T) {
	blocks := append(edgeBlocks(), someBlocks(3, 20)...)
	for _, x := range blocks {
		for _, y := range blocks {
			a, b := x, y
			sum, product := field.Xor(a, b), field.Mul128(a, b)
			if a != x || b != y {
				t.Fatalf("%X and %X became %X and %X", x, y, a, b)
			}
			wantBlock(t, "Xor asked again", field.Xor(a, b), sum)
			wantBlock(t, "Mul128 asked again", field.Mul128(a, b), product)
		}
		a := x
		wantBlock(t, "a block and itself", field.Xor(a, a), [16]byte{})
		wantBlock(t, "a block times itself", field.Mul128(a, a), plainMul128(x, x))
		if a != x {
			t.Fatalf("%X became %X", x, a)
		}
	}
}
