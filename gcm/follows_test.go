package gcm_test

import (
	"bytes"
	"slices"
	"testing"

	"culvert/api"
	"culvert/gcm"
)

var followLengths = []int{0, 1, 2, 15, 16, 17, 31, 32, 33, 100, 1280}

// P5.4: there and back, and 16 bytes more.
func TestOpenOfSeal(t *testing.T) {
	s := newSampler(4)
	for _, n := range followLengths {
		for _, m := range followLengths {
			key, nonce, ad, text := s.list(32), s.list(12), s.list(n), s.list(m)
			sealed := mustSeal(t, key, nonce, ad, text)
			if len(sealed) != m+16 {
				t.Errorf("Seal of %d bytes has %d", m, len(sealed))
			}
			wantOpened(t, "what was sealed", key, nonce, ad, sealed, text)
		}
	}
}

// P5.4: there and back at the limit.
func TestOpenOfSealAtTheLimit(t *testing.T) {
	s := newSampler(5)
	for _, x := range [][2]int{{0, api.MaxText}, {api.MaxText, 0}, {api.MaxText, api.MaxText}, {api.MaxText - 1, api.MaxText - 1}} {
		key, nonce, ad, text := s.list(32), s.list(12), s.list(x[0]), s.list(x[1])
		sealed := mustSeal(t, key, nonce, ad, text)
		if len(sealed) != x[1]+16 {
			t.Errorf("Seal of %d bytes has %d", x[1], len(sealed))
		}
		wantOpened(t, "what was sealed", key, nonce, ad, sealed, text)
	}
}

// P5.4: bytes that are a hidden text by chance have one tag, and Seal of what is opened makes just these bytes and that tag.
func TestSealOfOpen(t *testing.T) {
	s := newSampler(6)
	for _, n := range followLengths {
		for _, m := range followLengths {
			key, nonce, ad, hidden := s.list(32), s.list(12), s.list(n), s.list(m)
			tag := plainTag(key, nonce, ad, hidden)
			sealed := append(hidden, tag[:]...)
			text, ok := gcm.Open(key, nonce, ad, sealed)
			if !ok {
				t.Fatalf("Open of %d and %d bytes: false", n, m)
			}
			wantBytes(t, "Seal of Open", mustSeal(t, key, nonce, ad, text), sealed)
		}
	}
}

// P5.4: of all tags that are near the right one, of all hidden texts that are near, none opens to the same text, nor at all.
func TestOneSealedForm(t *testing.T) {
	key, nonce, ad, text := someKey(), someNonce(), []byte("head"), []byte("te")
	sealed := mustSeal(t, key, nonce, ad, text)
	opened := 0
	for i := range sealed {
		for x := range 256 {
			other := bytes.Clone(sealed)
			other[i] = byte(x)
			u, ok := gcm.Open(key, nonce, ad, other)
			if !ok {
				continue
			}
			opened++
			wantBytes(t, "Seal of Open", mustSeal(t, key, nonce, ad, u), other)
		}
	}
	if opened != len(sealed) {
		t.Errorf("%d of the near ones are opened, want each place's own byte alone: %d", opened, len(sealed))
	}
}

// P5.4: unlike texts have unlike sealed forms: all texts of one byte, and all of none to some bytes of zeros.
func TestUnlikeTexts(t *testing.T) {
	key, nonce, ad := someKey(), someNonce(), []byte("head")
	texts := [][]byte{}
	for x := range 256 {
		texts = append(texts, []byte{byte(x)})
	}
	for n := range 40 {
		if n != 1 {
			texts = append(texts, make([]byte, n))
		}
	}
	of := map[string]int{}
	for i, text := range texts {
		sealed := string(mustSeal(t, key, nonce, ad, text))
		if other, twice := of[sealed]; twice {
			t.Errorf("the texts %x and %x have one sealed form", text, texts[other])
		}
		of[sealed] = i
	}
}

func xorLists(x, y []byte) []byte {
	out := slices.Clone(x)
	for i, b := range y {
		out[i] ^= b
	}
	return out
}

// P5.4: two texts under one key and nonce, whatever the additional data: xored, they are seen.
func TestTwoTextsUnderOneNonce(t *testing.T) {
	s := newSampler(7)
	for _, n := range append(followLengths, 4100, api.MaxText) {
		key, nonce := s.list(32), s.list(12)
		one, two := s.list(n), s.list(n)
		a := mustSeal(t, key, nonce, s.list(20), one)
		b := mustSeal(t, key, nonce, s.list(s.IntN(40)), two)
		if len(a) != n+16 || len(b) != n+16 {
			t.Fatalf("texts of %d bytes: sealed they have %d and %d", n, len(a), len(b))
		}
		wantBytes(t, "both hidden texts xored", xorLists(a[:n], b[:n]), xorLists(one, two))
	}
}

// P5.4: a text of zeros shows the stream, which begins alike at whatever length.
func TestStreamBeginsAlike(t *testing.T) {
	key, nonce := someKey(), someNonce()
	stream := mustSeal(t, key, nonce, nil, make([]byte, 5000))[:5000]
	wantBytes(t, "the stream", stream, plainStream(key, nonce, 5000))
	for _, n := range followLengths {
		wantBytes(t, "a shorter one", mustSeal(t, key, nonce, []byte("head"), make([]byte, n))[:n], stream[:n])
	}
}
