package field_test

import (
	"testing"

	"culvert/field"
)

// products has each product of two bytes, so that laws of three bytes are tried for all of them.
type products [256][256]byte

func allProducts() *products {
	var p products
	for a := range 256 {
		for b := range 256 {
			p[a][b] = field.Mul8(byte(a), byte(b))
		}
	}
	return &p
}

// P3.5: all bytes: products turned round, with 0 and with 1, and zero just if one of both is.
func TestProductsOfTwoBytes(t *testing.T) {
	p := allProducts()
	for a := range 256 {
		wantByte(t, "a times 1", p[a][1], byte(a))
		wantByte(t, "1 times a", p[1][a], byte(a))
		for b := range 256 {
			if p[a][b] != p[b][a] {
				t.Errorf("%02X times %02X = %02X, turned round %02X", a, b, p[a][b], p[b][a])
			}
			if (p[a][b] == 0) != (a == 0 || b == 0) {
				t.Errorf("%02X times %02X = %02X", a, b, p[a][b])
			}
		}
	}
}

// P3.5: all bytes: products put together otherwise, and a product with a sum from both sides.
func TestProductsOfThreeBytes(t *testing.T) {
	p := allProducts()
	for a := range 256 {
		for b := range 256 {
			for c := range 256 {
				if p[p[a][b]][c] != p[a][p[b][c]] {
					t.Fatalf("%02X, %02X and %02X: put together otherwise, the product is another", a, b, c)
				}
				if p[a][b^c] != p[a][b]^p[a][c] || p[b^c][a] != p[b][a]^p[c][a] {
					t.Fatalf("%02X times the sum of %02X and %02X is not the sum of the products", a, b, c)
				}
			}
		}
	}
}

// P3.5: each byte but 0 has just one inverse, it is Inv8, and Inv8 of it is the byte itself.
func TestOneInverseForEachByte(t *testing.T) {
	p := allProducts()
	for a := range 256 {
		var found []byte
		for b := range 256 {
			if p[a][b] == 1 {
				found = append(found, byte(b))
			}
		}
		inverse := field.Inv8(byte(a))
		if a == 0 && (len(found) != 0 || inverse != 0) {
			t.Errorf("00: the inverses %X, Inv8 %02X", found, inverse)
		}
		if a != 0 && (len(found) != 1 || inverse != found[0]) {
			t.Errorf("%02X: the inverses %X, Inv8 %02X", a, found, inverse)
		}
		wantByte(t, "Inv8 of Inv8", field.Inv8(inverse), byte(a))
	}
}

// P3.5: all bytes: squares of sums, and eight squarings, of which no fewer bring back the byte 02.
func TestSquaresOfBytes(t *testing.T) {
	p := allProducts()
	for a := range 256 {
		for b := range 256 {
			wantByte(t, "the square of a sum", p[a^b][a^b], p[a][a]^p[b][b])
		}
		x := byte(a)
		for i := range 8 {
			if a == 2 && i > 0 && x == 2 {
				t.Errorf("%d squarings bring 02 back", i)
			}
			x = p[x][x]
		}
		wantByte(t, "eight squarings", x, byte(a))
	}
}

// P3.5: products of blocks turned round, with 0 and with 1, and zero just if one of both is.
func TestProductsOfTwoBlocks(t *testing.T) {
	blocks := append(edgeBlocks(), someBlocks(4, 40)...)
	var zero [16]byte
	for _, x := range blocks {
		wantBlock(t, "x times 1", field.Mul128(x, blockOne), x)
		wantBlock(t, "1 times x", field.Mul128(blockOne, x), x)
		wantBlock(t, "x times 0", field.Mul128(x, zero), zero)
		wantBlock(t, "0 times x", field.Mul128(zero, x), zero)
		for _, y := range blocks {
			xy := field.Mul128(x, y)
			wantBlock(t, "y times x", field.Mul128(y, x), xy)
			if (xy == zero) != (x == zero || y == zero) {
				t.Errorf("%X times %X = %X", x, y, xy)
			}
		}
	}
}

// P3.5: products of blocks put together otherwise, and a product with a sum from both sides.
func TestProductsOfThreeBlocks(t *testing.T) {
	blocks := append(edgeBlocks(), someBlocks(5, 10)...)
	for _, x := range blocks {
		for _, y := range blocks {
			xy := field.Mul128(x, y)
			for _, z := range blocks {
				yz, xz := field.Mul128(y, z), field.Mul128(x, z)
				wantBlock(t, "x times yz", field.Mul128(x, yz), field.Mul128(xy, z))
				wantBlock(t, "x times a sum", field.Mul128(x, field.Xor(y, z)), field.Xor(xy, xz))
				wantBlock(t, "a sum times z", field.Mul128(field.Xor(x, y), z), field.Xor(xz, yz))
			}
		}
	}
}

// P3.5: a product with any block is the sum of the products with its bits alone; so the products of single bits, which are all tried, make all others.
func TestProductsAreSumsOverBits(t *testing.T) {
	for _, x := range someBlocks(6, 10) {
		for _, y := range append(edgeBlocks(), someBlocks(7, 10)...) {
			var left, right [16]byte
			for i := range 128 {
				if polynomialOfBlock(y)[i] {
					left = field.Xor(left, field.Mul128(bitBlock(i), x))
					right = field.Xor(right, field.Mul128(x, bitBlock(i)))
				}
			}
			wantBlock(t, "y times x", field.Mul128(y, x), left)
			wantBlock(t, "x times y", field.Mul128(x, y), right)
		}
	}
}

// squared is x when it has been squared n times.
func squared(x [16]byte, n int) [16]byte {
	for range n {
		x = field.Mul128(x, x)
	}
	return x
}

// P3.5: squares of sums of blocks, and 128 squarings: of each block with one bit alone, and of others.
func TestSquaresOfBlocks(t *testing.T) {
	blocks := append(edgeBlocks(), someBlocks(8, 20)...)
	for _, x := range blocks {
		for _, y := range blocks {
			both := field.Xor(x, y)
			wantBlock(t, "the square of a sum", field.Mul128(both, both), field.Xor(field.Mul128(x, x), field.Mul128(y, y)))
		}
		wantBlock(t, "128 squarings", squared(x, 128), x)
	}
	for i := range 128 {
		wantBlock(t, "128 squarings of one bit", squared(bitBlock(i), 128), bitBlock(i))
	}
	if squared(bitBlock(1), 64) == bitBlock(1) {
		t.Errorf("64 squarings bring X back")
	}
}

// inverseOfBlock is the power 2^128 - 2 of x, which is its inverse if it has one.
func inverseOfBlock(x [16]byte) [16]byte {
	out := blockOne
	for range 127 {
		x = field.Mul128(x, x)
		out = field.Mul128(out, x)
	}
	return out
}

// P3.5: a block that has an inverse makes no product zero but that with zero.
func TestBlocksHaveInverses(t *testing.T) {
	for _, x := range append(edgeBlocks(), someBlocks(9, 40)...) {
		if x != [16]byte{} {
			wantBlock(t, "x times its inverse", field.Mul128(x, inverseOfBlock(x)), blockOne)
		}
	}
	// X comes back behind 128 squarings, and the difference that 64 of them make has an inverse: by Rabin's test nothing but 1 and itself divides the modulus, so every block but zero has an inverse.
	difference := field.Xor(squared(bitBlock(1), 64), bitBlock(1))
	wantBlock(t, "the difference times its inverse", field.Mul128(difference, inverseOfBlock(difference)), blockOne)
}
