package aes_test

import (
	"bytes"
	library "crypto/aes"
	"encoding/hex"
	"math/rand/v2"
	"slices"
	"strings"
	"sync"
	"testing"

	"culvert/aes"
	"culvert/api"
)

// hexBytes reads bytes that are written out, with any spaces between.
func hexBytes(t *testing.T, text string) []byte {
	t.Helper()
	b, err := hex.DecodeString(strings.Join(strings.Fields(text), ""))
	if err != nil {
		t.Fatalf("%q: %v", text, err)
	}
	return b
}

func hexBlock(t *testing.T, text string) [16]byte {
	t.Helper()
	b := hexBytes(t, text)
	if len(b) != 16 {
		t.Fatalf("%q is no block", text)
	}
	return [16]byte(b)
}

// counted is n bytes, the first one and then each step more than the one ahead.
func counted(first, step, n int) []byte {
	b := make([]byte, n)
	for i := range b {
		b[i] = byte(first + step*i)
	}
	return b
}

// bitAlone is n bytes with one bit.
func bitAlone(i, n int) []byte {
	b := make([]byte, n)
	b[i/8] = 0x80 >> (i % 8)
	return b
}

// edges are n bytes of each byte over and over, n bytes with each bit alone, and some that count up and down.
func edges(n int) [][]byte {
	var out [][]byte
	for x := range 256 {
		out = append(out, bytes.Repeat([]byte{byte(x)}, n))
	}
	for i := range 8 * n {
		out = append(out, bitAlone(i, n))
	}
	return append(out, counted(0, 1, n), counted(255, -1, n), counted(3, 7, n))
}

// samples makes lists of n bytes that are the same at every run.
func samples(seed uint64, count, n int) [][]byte {
	r := rand.New(rand.NewPCG(seed, uint64(n)))
	out := make([][]byte, count)
	for i := range out {
		out[i] = make([]byte, n)
		for j := range out[i] {
			out[i][j] = byte(r.Uint32())
		}
	}
	return out
}

func mustNew(t *testing.T, key []byte) *aes.Cipher {
	t.Helper()
	c, e := aes.New(key)
	if c == nil || e != api.OK {
		t.Fatalf("New(%X) = %v, %d, want a cipher", key, c, e)
	}
	return c
}

func wantBlock(t *testing.T, what string, got, want [16]byte) {
	t.Helper()
	if got != want {
		t.Errorf("%s = %X, want %X", what, got, want)
	}
}

// The table that FIPS 197 prints.
const printedBox = `
	637c777bf26b6fc53001672bfed7ab76 ca82c97dfa5947f0add4a2af9ca472c0
	b7fd9326363ff7cc34a5e5f171d83115 04c723c31896059a071280e2eb27b275
	09832c1a1b6e5aa0523bd6b329e32f84 53d100ed20fcb15b6acbbe394a4c58cf
	d0efaafb434d338545f9027f503c9fa8 51a3408f929d38f5bcb6da2110fff3d2
	cd0c13ec5f974417c4a77e3d645d1973 60814fdc222a908846eeb814de5e0bdb
	e0323a0a4906245cc2d3ac629195e479 e7c8376d8dd54ea96c56f4ea657aae08
	ba78252e1ca6b4c6e8dd741f4bbd8b8a 703eb5664803f60e613557b986c11d9e
	e1f8981169d98e949b1e87e9ce5528df 8ca1890dbfe6426841992d0fb054bb16`

// P4.1: the chapter's examples.
func TestSBoxOfKnownBytes(t *testing.T) {
	for _, x := range [][2]byte{{0x00, 0x63}, {0x01, 0x7C}, {0x3C, 0xEB}, {0xA5, 0x06}} {
		if got := aes.SBox(x[0]); got != x[1] {
			t.Errorf("SBox(%02X) = %02X, want %02X", x[0], got, x[1])
		}
	}
}

// P4.1: every byte, against the printed table and bit for bit.
func TestSBoxOfEveryByte(t *testing.T) {
	printed := hexBytes(t, printedBox)
	for x := range 256 {
		got := aes.SBox(byte(x))
		if got != printed[x] || got != plainSBox(byte(x)) {
			t.Errorf("SBox(%02X) = %02X, printed is %02X, bit for bit it is %02X", x, got, printed[x], plainSBox(byte(x)))
		}
	}
}

// P4.2: keys of all lengths but 32 are refused, whatever room lies behind them.
func TestNewRefusesOtherLengths(t *testing.T) {
	keys := [][]byte{nil, {}, make([]byte, 0, 32), make([]byte, 31, 32), make([]byte, 33, 64), make([]byte, 1<<20)}
	for n := range 300 {
		if n != 32 {
			keys = append(keys, counted(1, 1, n))
		}
	}
	for _, key := range keys {
		if c, e := aes.New(key); c != nil || e != api.ErrCipherKey {
			t.Errorf("New of %d bytes = %v, %d, want nil, %d", len(key), c, e, api.ErrCipherKey)
		}
	}
}

// P4.2: a key is handed in unchanged, and so is what lies ahead of it and behind it, taken or refused.
func TestNewLeavesTheKey(t *testing.T) {
	for _, n := range []int{0, 16, 31, 32, 33} {
		all := counted(9, 5, 100)
		c, _ := aes.New(all[20 : 20+n])
		if c != nil {
			c.Block([16]byte{1})
		}
		if !bytes.Equal(all, counted(9, 5, 100)) {
			t.Errorf("a key of %d bytes: its list has become %X", n, all)
		}
	}
}

// P4.2: what a key's owner writes behind New is not seen, whichever byte it is.
func TestNewKeepsNoKey(t *testing.T) {
	in := [16]byte(counted(0xC8, -1, 16))
	want := mustNew(t, counted(3, 7, 32)).Block(in)
	for i := range 32 {
		key := counted(3, 7, 32)
		c := mustNew(t, key)
		key[i] ^= 0xFF
		wantBlock(t, "behind a change of its key, Block", c.Block(in), want)
		clear(key)
		wantBlock(t, "behind its key's end, Block", c.Block(in), want)
	}
}

// P4.2: a cipher is of its whole key: none of its bits counts for nothing.
func TestEachBitOfTheKeyCounts(t *testing.T) {
	in := [16]byte(counted(0xC8, -1, 16))
	of := map[[16]byte]int{mustNew(t, counted(3, 7, 32)).Block(in): -1}
	for i := range 256 {
		key := counted(3, 7, 32)
		key[i/8] ^= 1 << (i % 8)
		out := mustNew(t, key).Block(in)
		if other, twice := of[out]; twice {
			t.Errorf("the bits %d and %d of a key make the same answer", i, other)
		}
		of[out] = i
	}
}

// P4.2: what counts of a key is its bytes, not where they lie.
func TestNewOfLikeKeys(t *testing.T) {
	key := counted(3, 7, 32)
	in := [16]byte{5}
	want := mustNew(t, key).Block(in)
	wide := append(make([]byte, 0, 100), key...)
	wantBlock(t, "of a key with spare room, Block", mustNew(t, wide).Block(in), want)
	wantBlock(t, "of a piece, Block", mustNew(t, append([]byte{1, 2, 3}, key...)[3:]).Block(in), want)
	wantBlock(t, "of a piece that is cut, Block", mustNew(t, key[:32:32]).Block(in), want)
}

// P4.3: the chapter's examples, and those of FIPS 197 (C.3) and of SP 800-38A (F.1.5).
func TestBlockOfKnownKeys(t *testing.T) {
	const theirs = "603deb1015ca71be2b73aef0857d7781 1f352c073b6108d72d9810a30914dff4"
	for _, x := range []struct {
		key      []byte
		in, want string
	}{
		{counted(3, 7, 32), "c8c7c6c5c4c3c2c1c0bfbebdbcbbbab9", "861a93a0ddf0223ed826b00e6e99a616"},
		{counted(3, 7, 32), "00000000000000000000000000000000", "21043bb84372ed77aa809b58b95f0500"},
		{counted(0x63, 0, 32), "00112233445566778899aabbccddeeff", "91a454eb6986d647143881f72cba1f66"},
		{counted(0, 1, 32), "00112233445566778899aabbccddeeff", "8ea2b7ca516745bfeafc49904b496089"},
		{hexBytes(t, theirs), "6bc1bee22e409f96e93d7e117393172a", "f3eed1bdb5d2a03c064b5a7e3db181f8"},
		{hexBytes(t, theirs), "ae2d8a571e03ac9c9eb76fac45af8e51", "591ccb10d410ed26dc5ba74a31362870"},
		{hexBytes(t, theirs), "30c81c46a35ce411e5fbc1191a0a52ef", "b6ed21b99ca6f4f9f153e7b1beafed1d"},
		{hexBytes(t, theirs), "f69f2445df4f9b17ad2b417be66c3710", "23304b7a39f9f3ff067d8d8f9e24ecc7"},
	} {
		wantBlock(t, "Block("+x.in+")", mustNew(t, x.key).Block(hexBlock(t, x.in)), hexBlock(t, x.want))
	}
}

// The round words that FIPS 197 (A.3) prints.
const printedWords = `
	603deb10 15ca71be 2b73aef0 857d7781 1f352c07 3b6108d7 2d9810a3 0914dff4
	9ba35411 8e6925af a51a8b5f 2067fcde a8b09c1a 93d194cd be49846e b75d5b9a
	d59aecb8 5bf3c917 fee94248 de8ebe96 b5a9328a 2678a647 98312229 2f6c79b3
	812c81ad dadf48ba 24360af2 fab8b464 98c5bfc9 bebd198e 268c3ba7 09e04214
	68007bac b2df3316 96e939e4 6c518d80 c814e204 76a9fb8a 5025c02d 59c58239
	de136967 6ccc5a71 fa256395 9674ee15 5886ca5d 2e2f31d7 7e0af1fa 27cf73c3
	749c47ab 18501dda e2757e4f 7401905a cafaaae3 e4d59b34 9adf6ace bd10190d
	fe4890d1 e6188d0b 046df344 706c631e`

// P4.3: what the package is held against has the round words of FIPS 197, of each kind, and its first and last round (C.3).
func TestPlainIsFIPS(t *testing.T) {
	words := hexBytes(t, printedWords)
	p := newPlain(words[:32])
	for i, w := range p.words {
		if !bytes.Equal(w[:], words[4*i:4*i+4]) {
			t.Errorf("w%d = %X, want %X", i, w, words[4*i:4*i+4])
		}
	}
	p.setKey(counted(0, 1, 32))
	in := hexBlock(t, "00112233445566778899aabbccddeeff")
	wantBlock(t, "the start of the round 1", p.start(in, 1), hexBlock(t, "00102030405060708090a0b0c0d0e0f0"))
	wantBlock(t, "the start of the round 2", p.start(in, 2), hexBlock(t, "4f63760643e0aa85efa7213201a4e705"))
	wantBlock(t, "the start of the round 14", p.start(in, 14), hexBlock(t, "627bceb9999d5aaac945ecf423f56da5"))
	wantBlock(t, "the round key 14", p.roundKey(14), hexBlock(t, "24fc79ccbf0979e9371ac23c6d68de36"))
	for r := 1; r <= 15; r++ {
		wantBlock(t, "there and back", p.before(p.start(in, r), r), in)
	}
}

// P4.3: keys at the edges, each with some blocks, and blocks at the edges, under some keys.
func TestBlockAtTheEdges(t *testing.T) {
	p := newPlain(make([]byte, 32))
	try := func(keys, blocks [][]byte) {
		for _, key := range keys {
			c := mustNew(t, key)
			p.setKey(key)
			for _, in := range blocks {
				if got, want := c.Block([16]byte(in)), p.block([16]byte(in)); got != want {
					t.Fatalf("the key %X: Block(%X) = %X, want %X", key, in, got, want)
				}
			}
		}
	}
	try(edges(32), [][]byte{make([]byte, 16), counted(0, 1, 16)})
	try([][]byte{make([]byte, 32), counted(255, 0, 32), counted(3, 7, 32)}, edges(16))
	try(samples(1, 100, 32), samples(2, 10, 16))
}

// P4.3: blocks whose first round, or whose last, begins with one byte over and over, or with one bit alone.
func TestFirstAndLastRound(t *testing.T) {
	key := counted(3, 7, 32)
	c, p := mustNew(t, key), newPlain(key)
	for _, start := range edges(16) {
		for _, r := range []int{1, 14} {
			in := p.before([16]byte(start), r)
			if got, want := c.Block(in), p.block(in); got != want {
				t.Fatalf("the round %d begins with %X: Block(%X) = %X, want %X", r, start, in, got, want)
			}
		}
	}
}

// P4.3: the last round mixes no column: what differs in one byte when it begins differs in just one byte of the answer, in the same row, turned.
func TestLastRoundMixesNothing(t *testing.T) {
	key := counted(3, 7, 32)
	c, p := mustNew(t, key), newPlain(key)
	start := [16]byte(counted(40, 9, 16))
	one := c.Block(p.before(start, 14))
	for i := range 16 {
		other := start
		other[i] ^= 0x55
		two := c.Block(p.before(other, 14))
		column, row := i/4, i%4
		place := 4*((column+4-row)%4) + row
		for k := range 16 {
			if (one[k] != two[k]) != (k == place) {
				t.Errorf("the last round begins with another byte %d: the answers are %X and %X", i, one, two)
			}
		}
	}
}

// P4.3: many keys and blocks, against the library's cipher.
func TestBlockAgainstTheLibrary(t *testing.T) {
	for i, key := range samples(3, 500, 32) {
		c := mustNew(t, key)
		other, err := library.NewCipher(key)
		if err != nil {
			t.Fatal(err)
		}
		for _, in := range samples(uint64(100+i), 20, 16) {
			var want [16]byte
			other.Encrypt(want[:], in)
			wantBlock(t, "Block", c.Block([16]byte(in)), want)
		}
	}
}

// P4.3: a long chain, each block the answer to the one ahead.
func TestChainOfBlocks(t *testing.T) {
	key := counted(0, 1, 32)
	c := mustNew(t, key)
	other, err := library.NewCipher(key)
	if err != nil {
		t.Fatal(err)
	}
	var got, want [16]byte
	for range 20000 {
		got = c.Block(got)
		other.Encrypt(want[:], want[:])
	}
	wantBlock(t, "the end of the chain", got, want)
}

// P4.4: ciphers used in turn, made in between, made of the same key, and refused in between.
func TestCiphersDoNotSeeOneAnother(t *testing.T) {
	keys := append(samples(4, 6, 32), make([]byte, 32), make([]byte, 32))
	blocks := samples(5, 8, 16)
	var want [][16]byte
	for _, key := range keys {
		p := newPlain(key)
		for _, in := range blocks {
			want = append(want, p.block([16]byte(in)))
		}
	}
	var ciphers []*aes.Cipher
	for _, key := range keys {
		ciphers = append(ciphers, mustNew(t, key))
		aes.New(key[:31])
		for j := range blocks {
			for k := range ciphers {
				wantBlock(t, "in turn, Block", ciphers[k].Block([16]byte(blocks[j])), want[len(blocks)*k+j])
			}
		}
	}
}

// P4.4: the same block twice, with others between, and the cipher is what it was; so is the block.
func TestBlockChangesNothing(t *testing.T) {
	c := mustNew(t, counted(3, 7, 32))
	was := *c
	for _, x := range edges(16) {
		in := [16]byte(x)
		first := c.Block(in)
		wantBlock(t, "the second time, Block", c.Block(in), first)
		c.Block(first)
		wantBlock(t, "behind another, Block", c.Block(in), first)
		wantBlock(t, "the block handed in", in, [16]byte(x))
	}
	if *c != was {
		t.Errorf("the cipher has become another")
	}
}

// P4.4: one cipher asked by many at the same time.
func TestBlockAtTheSameTime(t *testing.T) {
	c := mustNew(t, counted(3, 7, 32))
	blocks := samples(6, 50, 16)
	p := newPlain(counted(3, 7, 32))
	var want [][16]byte
	for _, in := range blocks {
		want = append(want, p.block([16]byte(in)))
	}
	answers := make([][][16]byte, 8)
	var all sync.WaitGroup
	for i := range answers {
		all.Go(func() {
			for _, in := range blocks {
				answers[i] = append(answers[i], c.Block([16]byte(in)))
			}
		})
	}
	all.Wait()
	for i, got := range answers {
		if !slices.Equal(got, want) {
			t.Errorf("the asker %d was answered otherwise", i)
		}
	}
}
