package gcm_test

import (
	"bytes"
	library "crypto/aes"
	"crypto/cipher"
	"encoding/hex"
	"math/rand/v2"
	"slices"
	"strings"
	"testing"

	"culvert/aes"
	"culvert/api"
	"culvert/field"
	"culvert/gcm"
)

// hexBytes reads bytes that are written out, with any spaces between.
func hexBytes(t *testing.T, text string) []byte {
	t.Helper()
	b, err := hex.DecodeString(strings.Join(strings.Fields(text), ""))
	if err != nil {
		t.Fatalf("%q: %v", text, err)
	}
	return b
}

// counted is n bytes, the first one and then each step more than the one ahead.
func counted(first, step, n int) []byte {
	b := make([]byte, n)
	for i := range b {
		b[i] = byte(first + step*i)
	}
	return b
}

// sampler makes lists that are the same at every run.
type sampler struct{ *rand.Rand }

func newSampler(seed uint64) sampler { return sampler{rand.New(rand.NewPCG(seed, 5))} }

func (s sampler) list(n int) []byte {
	b := make([]byte, n)
	for i := range b {
		b[i] = byte(s.Uint32())
	}
	return b
}

// The chapter's key and nonce.
func someKey() []byte   { return counted(3, 7, 32) }
func someNonce() []byte { return counted(0xC8, -1, 12) }

func mustSeal(t *testing.T, key, nonce, ad, text []byte) []byte {
	t.Helper()
	sealed, e := gcm.Seal(key, nonce, ad, text)
	if e != api.OK {
		t.Fatalf("Seal of %d and %d bytes: %d, want OK", len(ad), len(text), e)
	}
	return sealed
}

func wantBytes(t *testing.T, what string, got, want []byte) {
	t.Helper()
	if !bytes.Equal(got, want) {
		t.Errorf("%s = %s, want %s", what, brief(got), brief(want))
	}
}

// brief cuts a long list.
func brief(b []byte) string {
	if len(b) > 80 {
		return hex.EncodeToString(b[:80]) + ".."
	}
	return hex.EncodeToString(b)
}

func wantError(t *testing.T, what string, want api.Errno, key, nonce, ad, text []byte) {
	t.Helper()
	if sealed, e := gcm.Seal(key, nonce, ad, text); e != want || len(sealed) != 0 {
		t.Errorf("%s: Seal = %d bytes, %d, want none, %d", what, len(sealed), e, want)
	}
}

func wantOpened(t *testing.T, what string, key, nonce, ad, sealed, want []byte) {
	t.Helper()
	if text, ok := gcm.Open(key, nonce, ad, sealed); !ok || !bytes.Equal(text, want) {
		t.Errorf("%s: Open = %s, %v, want %s, true", what, brief(text), ok, brief(want))
	}
}

func wantRefused(t *testing.T, what string, key, nonce, ad, sealed []byte) {
	t.Helper()
	if text, ok := gcm.Open(key, nonce, ad, sealed); ok || len(text) != 0 {
		t.Errorf("%s: Open = %s, %v, want nothing, false", what, brief(text), ok)
	}
}

// known are texts whose sealed forms others have written down: the chapter's examples, and the cases 13 to 16 of the mode's authors.
func known(t *testing.T) []struct{ key, nonce, ad, text, want []byte } {
	theirKey := hexBytes(t, "feffe9928665731c6d6a8f9467308308 feffe9928665731c6d6a8f9467308308")
	theirNonce := hexBytes(t, "cafebabefacedbaddecaf888")
	theirAd := hexBytes(t, "feedfacedeadbeeffeedfacedeadbeefabaddad2")
	theirText := hexBytes(t, `d9313225f88406e5a55909c5aff5269a 86a7a9531534f7da2e4c303d8a318a72
		1c3c0c95956809532fcf0e2449a6b525 b16aedf5aa0de657ba637b391aafd255`)
	const theirSealed = `522dc1f099567d07f47f37a32a84427d 643a8cdcbfe5c0c97598a2bd2555d1aa
		8cb08e48590dbb3da7b08b1056828838 c5f61e6393ba7a0abcc9f662`
	zeros := make([]byte, 32)
	return []struct{ key, nonce, ad, text, want []byte }{
		{someKey(), someNonce(), nil, nil, hexBytes(t, "e4d4e5be7f727a9a10404d70a741e8bf")},
		{someKey(), someNonce(), []byte("head"), nil, hexBytes(t, "437a6000d892706c1422978b41e0a329")},
		{someKey(), someNonce(), nil, []byte("sixteen bytes ok"), hexBytes(t, "5f5f9d67175f2e80e06ea5ead2b2286f a379e83afb63b3d649b0984b76d063a2")},
		{someKey(), someNonce(), []byte("a head of 20 bytes.."), []byte("and a payload of some thirty bytes"),
			hexBytes(t, "4d588133131a30c1fb7bbeeec5b2286245b7297051c74fcaf1d9b53a50b26fbc0a63 8a30b9a34fcf1efcdf1dccf2e2a745e1")},
		{zeros, zeros[:12], nil, nil, hexBytes(t, "530f8afbc74536b9a963b4f1c4cb738b")},
		{zeros, zeros[:12], nil, zeros[:16], hexBytes(t, "cea7403d4d606b6e074ec5d3baf39d18 d0d1c8a799996bf0265b98b5d48ab919")},
		{theirKey, theirNonce, nil, theirText, hexBytes(t, theirSealed+"898015ad b094dac5d93471bdec1a502270e3cc6c")},
		{theirKey, theirNonce, theirAd, theirText[:60], hexBytes(t, theirSealed+"76fc6ece0f4e1768cddf8853bb2d551b")},
	}
}

// P5.1, P5.2: what others have written down, both ways.
func TestKnownTexts(t *testing.T) {
	for _, x := range known(t) {
		wantBytes(t, "Seal", mustSeal(t, x.key, x.nonce, x.ad, x.text), x.want)
		wantOpened(t, "what is known", x.key, x.nonce, x.ad, x.want, x.text)
	}
}

// P5.1: what the package is held against makes what others have written down too, and what the library makes.
func TestPlainIsTheMode(t *testing.T) {
	for _, x := range known(t) {
		wantBytes(t, "the plain seal", plainSeal(x.key, x.nonce, x.ad, x.text), x.want)
		wantBytes(t, "the library's seal", librarySeal(x.key, x.nonce, x.ad, x.text), x.want)
	}
}

// P5.1: all parts of the answer by the words of the chapter, with E and the products of the layers below.
func TestSealByTheWords(t *testing.T) {
	key, nonce, ad, text := someKey(), someNonce(), counted(1, 3, 21), counted(9, 5, 40)
	c, _ := aes.New(key)
	h := c.Block([16]byte{})
	var hidden [48]byte
	for i := range 3 {
		block := c.Block([16]byte(append(someNonce(), 0, 0, 0, byte(2+i))))
		copy(hidden[16*i:], block[:])
	}
	for i, b := range text {
		hidden[i] ^= b
	}
	clear(hidden[40:])
	var list []byte
	list = append(list, ad...)
	list = append(list, make([]byte, 11)...)
	list = append(list, hidden[:]...)
	list = append(list, 0, 0, 0, 0, 0, 0, 0, 168, 0, 0, 0, 0, 0, 0, 1, 64)
	var sum [16]byte
	for piece := range slices.Chunk(list, 16) {
		sum = field.Mul128(field.Xor(sum, [16]byte(piece)), h)
	}
	tag := field.Xor(sum, c.Block([16]byte(append(someNonce(), 0, 0, 0, 1))))
	wantBytes(t, "Seal", mustSeal(t, key, nonce, ad, text), append(hidden[:40:40], tag[:]...))
}

// P5.1, P5.2: additional data and texts of all small lengths.
func TestShortLengths(t *testing.T) {
	s := newSampler(1)
	for n := range 50 {
		for m := range 50 {
			key, nonce, ad, text := s.list(32), s.list(12), s.list(n), s.list(m)
			want := librarySeal(key, nonce, ad, text)
			wantBytes(t, "Seal", mustSeal(t, key, nonce, ad, text), want)
			wantOpened(t, "the library's", key, nonce, ad, want, text)
		}
	}
}

// P5.1, P5.2: lengths of additional data and of texts on both sides of a block's end, of a number's byte, of a counter's byte and of the limit.
func TestEdgesOfLengths(t *testing.T) {
	lengths := []int{0, 1, 15, 16, 17, 31, 32, 33, 4063, 4064, 4065, 8191, 8192, 8193, api.MaxText - 16, api.MaxText - 1, api.MaxText}
	key, nonce := someKey(), someNonce()
	for _, n := range lengths {
		for _, m := range []int{0, 1, 15, 16, 17} {
			for _, x := range [][2][]byte{{counted(1, 3, n), counted(2, 5, m)}, {counted(1, 3, m), counted(2, 5, n)}} {
				ad, text := x[0], x[1]
				want := librarySeal(key, nonce, ad, text)
				wantBytes(t, "Seal", mustSeal(t, key, nonce, ad, text), want)
				wantOpened(t, "the library's", key, nonce, ad, want, text)
			}
		}
		ad, text := counted(4, 9, n), counted(6, 11, n)
		wantBytes(t, "Seal", mustSeal(t, key, nonce, ad, text), plainSeal(key, nonce, ad, text))
	}
}

// P5.1, P5.2: the limit for both at once, and bytes of one kind.
func TestBothAtTheLimit(t *testing.T) {
	for _, b := range []byte{0, 0xFF, 0x80} {
		all := bytes.Repeat([]byte{b}, api.MaxText)
		want := librarySeal(all[:32], all[:12], all, all)
		wantBytes(t, "Seal", mustSeal(t, all[:32], all[:12], all, all), want)
		wantOpened(t, "the library's", all[:32], all[:12], all, want, all)
	}
}

// P5.1: many keys, nonces, additional data and texts, against the plain seal and the library's.
func TestSealOfSamples(t *testing.T) {
	s := newSampler(2)
	for range 200 {
		key, nonce, ad, text := s.list(32), s.list(12), s.list(s.IntN(300)), s.list(s.IntN(300))
		want := librarySeal(key, nonce, ad, text)
		wantBytes(t, "the plain seal", plainSeal(key, nonce, ad, text), want)
		wantBytes(t, "Seal", mustSeal(t, key, nonce, ad, text), want)
	}
}

// P5.1: a nonce's bytes stay as they are beside a counter that grows, at whatever end they stand.
func TestNoncesAtTheEdges(t *testing.T) {
	text := counted(0, 1, 4100)
	for _, nonce := range [][]byte{make([]byte, 12), counted(0xFF, 0, 12), append(make([]byte, 11), 0xFF), append(counted(0xFF, 0, 11), 0), append([]byte{0x80}, make([]byte, 11)...)} {
		want := plainSeal(someKey(), nonce, nil, text)
		wantBytes(t, "Seal", mustSeal(t, someKey(), nonce, nil, text), want)
		wantOpened(t, "the plain seal's", someKey(), nonce, nil, want, text)
	}
}

// P5.1, P5.2: what was sealed before has no say.
func TestCallsDoNotSeeOneAnother(t *testing.T) {
	s := newSampler(3)
	for range 50 {
		key, nonce, ad, text := s.list(32), s.list(12), s.list(20), s.list(40)
		first := mustSeal(t, key, nonce, ad, text)
		mustSeal(t, s.list(32), s.list(12), s.list(30), s.list(50))
		mustSeal(t, key, s.list(12), nil, text)
		gcm.Seal(key, nonce[:11], ad, text)
		wantRefused(t, "bytes that were not sealed", key, nonce, ad, s.list(60))
		wantBytes(t, "Seal once more", mustSeal(t, key, nonce, ad, text), first)
		wantOpened(t, "opened once", key, nonce, ad, first, text)
		wantOpened(t, "opened twice", key, nonce, ad, first, text)
	}
}

// otherLengths are lists of all small lengths but n and of a great one, some with spare room in which n bytes would fit.
func otherLengths(n int) [][]byte {
	out := [][]byte{nil, {}, make([]byte, 0, n), make([]byte, n-1, n), make([]byte, n+1, 2*n), make([]byte, 1<<20)}
	for m := range 100 {
		if m != n {
			out = append(out, counted(1, 1, m))
		}
	}
	return out
}

// P5.1, P5.2: keys of other lengths, among them those of other ciphers of the same kind.
func TestKeysOfOtherLengths(t *testing.T) {
	sealed := mustSeal(t, someKey(), someNonce(), []byte("head"), []byte("text"))
	for _, key := range otherLengths(32) {
		wantError(t, "a key of another length", api.ErrCipherKey, key, someNonce(), []byte("head"), []byte("text"))
		wantRefused(t, "a key of another length", key, someNonce(), []byte("head"), sealed)
		if n := len(key); n == 16 || n == 24 {
			wantRefused(t, "a key of AES-128 or AES-192", key, someNonce(), nil, librarySeal(key, someNonce(), nil, []byte("text")))
		}
	}
}

// P5.1, P5.2: nonces of other lengths; a mode that makes 12 bytes of them is none of this package.
func TestNoncesOfOtherLengths(t *testing.T) {
	sealed := mustSeal(t, someKey(), someNonce(), []byte("head"), []byte("text"))
	for _, nonce := range otherLengths(12) {
		wantError(t, "a nonce of another length", api.ErrCipherNonce, someKey(), nonce, []byte("head"), []byte("text"))
		wantRefused(t, "a nonce of another length", someKey(), nonce, []byte("head"), sealed)
		if len(nonce) > 0 {
			wantRefused(t, "a nonce of another length, with its tag", someKey(), nonce, nil, librarySeal(someKey(), nonce, nil, []byte("text")))
		}
	}
}

// P5.1, P5.2: one byte too many, and many, in the text or in the additional data, though the tag is right.
func TestTooLong(t *testing.T) {
	key, nonce := someKey(), someNonce()
	for _, n := range []int{api.MaxText + 1, api.MaxText + 15, api.MaxText + 16, api.MaxText + 17, 1 << 20} {
		long := counted(0, 1, n)
		for _, short := range [][]byte{nil, {7}, long[:api.MaxText]} {
			wantError(t, "a long text", api.ErrCipherLong, key, nonce, short, long)
			wantError(t, "long additional data", api.ErrCipherLong, key, nonce, long, short)
			wantRefused(t, "a long text", key, nonce, short, librarySeal(key, nonce, short, long))
			wantRefused(t, "long additional data", key, nonce, long, librarySeal(key, nonce, long, short))
		}
		wantError(t, "both long", api.ErrCipherLong, key, nonce, long, long)
		wantRefused(t, "both long", key, nonce, long, librarySeal(key, nonce, long, long))
	}
}

// P5.1: of several faults the first one is told, whatever comes with it.
func TestFirstFault(t *testing.T) {
	long := make([]byte, api.MaxText+1)
	fine := []byte("fine")
	for _, key := range [][]byte{nil, make([]byte, 31), make([]byte, 33), make([]byte, 32)} {
		for _, nonce := range [][]byte{nil, make([]byte, 11), make([]byte, 13), make([]byte, 12)} {
			for _, rest := range [][2][]byte{{fine, fine}, {long, fine}, {fine, long}, {long, long}} {
				want := api.OK
				switch {
				case len(key) != 32:
					want = api.ErrCipherKey
				case len(nonce) != 12:
					want = api.ErrCipherNonce
				case len(rest[0]) > api.MaxText || len(rest[1]) > api.MaxText:
					want = api.ErrCipherLong
				}
				sealed, e := gcm.Seal(key, nonce, rest[0], rest[1])
				if e != want || (len(sealed) == 0) != (want != api.OK) {
					t.Errorf("a key of %d bytes, a nonce of %d, then %d and %d: Seal = %d bytes, %d, want %d", len(key), len(nonce), len(rest[0]), len(rest[1]), len(sealed), e, want)
				}
				if want != api.OK {
					wantRefused(t, "with a fault", key, nonce, rest[0], make([]byte, len(rest[1])+16))
				}
			}
		}
	}
}

// P5.2: too few bytes for a tag, even if a tag begins, or ends, with them.
func TestOpenOfTooFew(t *testing.T) {
	tag := mustSeal(t, someKey(), someNonce(), nil, nil)
	for n := range 16 {
		wantRefused(t, "the first bytes of a tag", someKey(), someNonce(), nil, tag[:n])
		wantRefused(t, "the last bytes of a tag", someKey(), someNonce(), nil, tag[16-n:])
		wantRefused(t, "zeros", someKey(), someNonce(), nil, make([]byte, n))
	}
	wantRefused(t, "nil", someKey(), someNonce(), nil, nil)
}

// P5.2: just a tag: that of no text, and no other one.
func TestOpenOfJustATag(t *testing.T) {
	for _, ad := range [][]byte{nil, {}, []byte("head"), make([]byte, 16)} {
		tag := plainTag(someKey(), someNonce(), ad, nil)
		wantOpened(t, "just a tag", someKey(), someNonce(), ad, tag[:], nil)
		wantRefused(t, "16 zeros", someKey(), someNonce(), ad, make([]byte, 16))
		tag[15]++
		wantRefused(t, "just another tag", someKey(), someNonce(), ad, tag[:])
	}
}

// P5.2: as many bytes as can be, with a right tag and with a wrong one.
func TestOpenAtTheLimit(t *testing.T) {
	key, nonce, text := someKey(), someNonce(), counted(0, 1, api.MaxText)
	sealed := librarySeal(key, nonce, nil, text)
	wantOpened(t, "MaxText + 16 bytes", key, nonce, nil, sealed, text)
	for _, i := range []int{0, 1, api.MaxText / 2, api.MaxText - 1, api.MaxText, api.MaxText + 15} {
		other := bytes.Clone(sealed)
		other[i] ^= 1
		wantRefused(t, "MaxText + 16 bytes with one bit turned", key, nonce, nil, other)
	}
	wantRefused(t, "MaxText + 17 bytes", key, nonce, nil, append(bytes.Clone(sealed), 0))
}

// P5.2: each single bit of the key, the nonce, the additional data, the text and the tag counts.
func TestEachBitCounts(t *testing.T) {
	for _, n := range []int{0, 4, 16, 20} {
		parts := [][]byte{someKey(), someNonce(), counted(1, 3, n), nil}
		parts[3] = mustSeal(t, parts[0], parts[1], parts[2], counted(2, 5, 34-n))
		for p, name := range []string{"key", "nonce", "additional data", "sealed text"} {
			for i := range 8 * len(parts[p]) {
				turned := slices.Clone(parts)
				turned[p] = bytes.Clone(parts[p])
				turned[p][i/8] ^= 1 << (i % 8)
				wantRefused(t, "one bit turned in the "+name, turned[0], turned[1], turned[2], turned[3])
			}
		}
	}
}

// P5.2: a tag is right as a whole: not if only its beginning, its end or its sum is.
func TestTagsThatAreNearlyRight(t *testing.T) {
	key, nonce, ad := someKey(), someNonce(), []byte("head")
	sealed := mustSeal(t, key, nonce, ad, []byte("text"))
	for i := range 16 {
		for j := range i {
			other := bytes.Clone(sealed)
			other[4+i] ^= 0x55
			other[4+j] ^= 0x55
			wantRefused(t, "two bytes of the tag turned alike", key, nonce, ad, other)
			other = bytes.Clone(sealed)
			other[4+i], other[4+j] = other[4+j], other[4+i]
			wantRefused(t, "two bytes of the tag exchanged", key, nonce, ad, other)
		}
	}
	for n := 1; n <= 16; n++ {
		head, tail := bytes.Clone(sealed), bytes.Clone(sealed)
		clear(head[len(head)-n:])
		clear(tail[4 : 4+n])
		wantRefused(t, "the end of the tag cleared", key, nonce, ad, head)
		wantRefused(t, "the beginning of the tag cleared", key, nonce, ad, tail)
	}
}

// P5.2: shorter tags, as the library makes them, are none.
func TestShorterTags(t *testing.T) {
	c, err := library.NewCipher(someKey())
	if err != nil {
		t.Fatal(err)
	}
	for size := 12; size < 16; size++ {
		mode, err := cipher.NewGCMWithTagSize(c, size)
		if err != nil {
			t.Fatal(err)
		}
		for _, n := range []int{0, 4, 16, 40} {
			wantRefused(t, "a shorter tag", someKey(), someNonce(), nil, mode.Seal(nil, someNonce(), counted(1, 1, n), nil))
		}
	}
}

// P5.2: bytes moved between the additional data and the text, with and without a change of the list that is folded but for the lengths.
func TestMovedBytes(t *testing.T) {
	key, nonce := someKey(), someNonce()
	for _, n := range []int{0, 16, 20, 32} {
		for _, m := range []int{0, 16, 20, 32} {
			ad := counted(1, 3, n)
			sealed := mustSeal(t, key, nonce, ad, counted(2, 5, m))
			all := append(bytes.Clone(ad), sealed...)
			for cut := range n + m + 1 {
				if cut != n {
					wantRefused(t, "bytes moved", key, nonce, all[:cut], all[cut:])
				}
			}
		}
	}
}

// P5.2: zeros more or fewer, where zeros fill up a block, and blocks of zeros.
func TestZerosCount(t *testing.T) {
	key, nonce := someKey(), someNonce()
	for _, n := range []int{0, 1, 4, 15, 16, 17} {
		for _, m := range []int{0, 1, 4, 15, 16, 17} {
			ad := make([]byte, n, n+40)
			// A text whose sealed form is zeros.
			sealed := mustSeal(t, key, nonce, ad, plainStream(key, nonce, m))
			wantBytes(t, "the hidden text", sealed[:m], make([]byte, m))
			for k := range 33 {
				longer := append(make([]byte, k), sealed...)
				if k != n {
					wantRefused(t, "other zeros as additional data", key, nonce, make([]byte, k), sealed)
				}
				if k > 0 {
					wantRefused(t, "more zeros ahead of the tag", key, nonce, ad, longer)
				}
				if k <= m && k > 0 {
					wantRefused(t, "fewer zeros ahead of the tag", key, nonce, ad, sealed[k:])
				}
			}
		}
	}
}

// P5.2: what is cut off, drawn out, turned round or mixed is not opened.
func TestCutAndMixed(t *testing.T) {
	key, nonce, ad := someKey(), someNonce(), []byte("head")
	one := mustSeal(t, key, nonce, ad, counted(1, 1, 40))
	two := mustSeal(t, key, nonce, ad, counted(2, 1, 40))
	for n := range one {
		wantRefused(t, "the end cut off", key, nonce, ad, one[:n])
		if n > 0 {
			wantRefused(t, "the beginning cut off", key, nonce, ad, one[n:])
			wantRefused(t, "the beginning of one, the end of the other", key, nonce, ad, append(bytes.Clone(one[:n]), two[n:]...))
		}
	}
	wantRefused(t, "one byte more", key, nonce, ad, append(bytes.Clone(one), 0))
	wantRefused(t, "one byte more ahead", key, nonce, ad, append([]byte{0}, one...))
	exchanged := slices.Concat(one[16:32], one[:16], one[32:])
	wantRefused(t, "two blocks exchanged", key, nonce, ad, exchanged)
	wantRefused(t, "the text as additional data", key, nonce, one[:40], append([]byte("head"), one[40:]...))
}

// P5.1, P5.2: nil and the empty list are the same.
func TestNilAndEmpty(t *testing.T) {
	key, nonce := someKey(), someNonce()
	want := mustSeal(t, key, nonce, nil, nil)
	for _, ad := range [][]byte{nil, {}, make([]byte, 0, 20)} {
		for _, text := range [][]byte{nil, {}, make([]byte, 0, 20)} {
			wantBytes(t, "Seal", mustSeal(t, key, nonce, ad, text), want)
			wantOpened(t, "of nothing", key, nonce, ad, want, nil)
		}
	}
}
