package gcm_test

import (
	library "crypto/aes"
	"crypto/cipher"
	"encoding/binary"
	"math/big"
)

// The words of the chapter, one by one and by other means than the package's, to hold the package against: the library's cipher for E, blocks as great numbers, lists written out whole.

// plainE is E of a block under a key.
func plainE(key []byte, block [16]byte) [16]byte {
	c, err := library.NewCipher(key)
	if err != nil {
		panic(err)
	}
	var out [16]byte
	c.Encrypt(out[:], block[:])
	return out
}

func plainCounterBlock(nonce []byte, i int) [16]byte {
	return [16]byte(binary.BigEndian.AppendUint32(append([]byte(nil), nonce...), uint32(i)))
}

// polynomial is the number whose bit i is the coefficient of X^i.
func polynomial(block [16]byte) *big.Int {
	p := new(big.Int)
	for i := range 128 {
		p.SetBit(p, i, uint(block[i/8]>>(7-i%8)&1))
	}
	return p
}

func blockOf(p *big.Int) [16]byte {
	var block [16]byte
	for i := range 128 {
		block[i/8] |= byte(p.Bit(i)) << (7 - i%8)
	}
	return block
}

// plainProduct multiplies as numbers are multiplied by hand, then divides by X^128 + X^7 + X^2 + X + 1.
func plainProduct(x, y *big.Int) *big.Int {
	product := new(big.Int)
	for i := range 128 {
		if x.Bit(i) == 1 {
			product.Xor(product, new(big.Int).Lsh(y, uint(i)))
		}
	}
	modulus := big.NewInt(0x87)
	modulus.SetBit(modulus, 128, 1)
	for i := 254; i >= 128; i-- {
		if product.Bit(i) == 1 {
			product.Xor(product, new(big.Int).Lsh(modulus, uint(i-128)))
		}
	}
	return product
}

func plainFold(key, list []byte) [16]byte {
	h := polynomial(plainE(key, [16]byte{}))
	sum := new(big.Int)
	for ; len(list) > 0; list = list[16:] {
		sum = plainProduct(sum.Xor(sum, polynomial([16]byte(list[:16]))), h)
	}
	return blockOf(sum)
}

// filled is a list and zeros up to a multiple of 16 bytes.
func filled(list []byte) []byte {
	out := append([]byte(nil), list...)
	for len(out)%16 != 0 {
		out = append(out, 0)
	}
	return out
}

func plainTag(key, nonce, ad, hidden []byte) [16]byte {
	list := append(filled(ad), filled(hidden)...)
	list = binary.BigEndian.AppendUint64(list, 8*uint64(len(ad)))
	list = binary.BigEndian.AppendUint64(list, 8*uint64(len(hidden)))
	return xored(plainFold(key, list), plainE(key, plainCounterBlock(nonce, 1)))
}

func xored(x, y [16]byte) [16]byte {
	for i := range x {
		x[i] ^= y[i]
	}
	return x
}

// plainStream is n bytes of a stream.
func plainStream(key, nonce []byte, n int) []byte {
	var stream []byte
	for i := 2; len(stream) < n; i++ {
		block := plainE(key, plainCounterBlock(nonce, i))
		stream = append(stream, block[:]...)
	}
	return stream[:n]
}

// plainSeal bounds no text and no additional data.
func plainSeal(key, nonce, ad, text []byte) []byte {
	sealed := plainStream(key, nonce, len(text))
	for i, b := range text {
		sealed[i] ^= b
	}
	tag := plainTag(key, nonce, ad, sealed)
	return append(sealed, tag[:]...)
}

// librarySeal is the library's; it takes keys of 16 and 24 bytes, other nonces and any length too.
func librarySeal(key, nonce, ad, text []byte) []byte {
	c, err := library.NewCipher(key)
	if err != nil {
		panic(err)
	}
	mode, err := cipher.NewGCMWithNonceSize(c, len(nonce))
	if err != nil {
		panic(err)
	}
	return mode.Seal(nil, nonce, text, ad)
}
