package aes_test

import (
	library "crypto/aes"
	"encoding/binary"
	"testing"

	"culvert/aes"
)

// P4.5: each byte is the SBox of just one; none is its own, nor its own one's complement.
func TestSBoxIsAPermutation(t *testing.T) {
	var of [256]int
	for x := range 256 {
		y := aes.SBox(byte(x))
		of[y]++
		if y == byte(x) || y == ^byte(x) {
			t.Errorf("SBox(%02X) = %02X", x, y)
		}
	}
	for y, n := range of {
		if n != 1 {
			t.Errorf("%02X is the SBox of %d bytes", y, n)
		}
	}
}

// nearBlocks are one block, all that differ from it in one byte, all that differ in two bits, and many that count.
func nearBlocks(from [16]byte) map[[16]byte]bool {
	all := map[[16]byte]bool{from: true}
	for i := range 16 {
		for x := range 256 {
			near := from
			near[i] = byte(x)
			all[near] = true
		}
	}
	for i := range 128 {
		for j := range i {
			near := from
			near[i/8] ^= 1 << (i % 8)
			near[j/8] ^= 1 << (j % 8)
			all[near] = true
		}
	}
	for n := range 20000 {
		near := from
		binary.BigEndian.PutUint32(near[12:], uint32(n))
		all[near] = true
	}
	return all
}

// P4.5: unlike blocks under one key have unlike answers.
func TestUnlikeBlocks(t *testing.T) {
	for _, key := range [][]byte{make([]byte, 32), counted(0x63, 0, 32), counted(3, 7, 32)} {
		c := mustNew(t, key)
		from := map[[16]byte][16]byte{}
		for in := range nearBlocks([16]byte(counted(0xC8, -1, 16))) {
			out := c.Block(in)
			if other, twice := from[out]; twice {
				t.Fatalf("the key %X: %X and %X both become %X", key, in, other, out)
			}
			from[out] = in
		}
	}
}

// P4.5: there is a way back from every answer, and one to every block.
func TestThereAndBack(t *testing.T) {
	blocks := append(edges(16), samples(7, 100, 16)...)
	for _, key := range append(samples(8, 3, 32), make([]byte, 32)) {
		c, p := mustNew(t, key), newPlain(key)
		other, err := library.NewCipher(key)
		if err != nil {
			t.Fatal(err)
		}
		for _, x := range blocks {
			block := [16]byte(x)
			out := c.Block(block)
			wantBlock(t, "the way back from Block", p.before(out, 15), block)
			wantBlock(t, "Block of the way back", c.Block(p.before(block, 15)), block)
			var back [16]byte
			other.Decrypt(back[:], out[:])
			wantBlock(t, "the library's way back from Block", back, block)
		}
	}
}
