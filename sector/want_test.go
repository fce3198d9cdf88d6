package sector_test

import (
	"bytes"
	"encoding/hex"
	"strconv"
	"strings"
	"testing"

	"culvert/api"
	"culvert/sector"
)

// hexBytes reads bytes that are written out, with any spaces between.
func hexBytes(t *testing.T, text string) []byte {
	t.Helper()
	b, err := hex.DecodeString(strings.Join(strings.Fields(text), ""))
	if err != nil {
		t.Fatalf("%q: %v", text, err)
	}
	return b
}

// brief cuts a long list.
func brief(b []byte) string {
	if len(b) > 60 {
		return hex.EncodeToString(b[:40]) + ".." + hex.EncodeToString(b[len(b)-4:]) + " (" + strconv.Itoa(len(b)) + " bytes)"
	}
	return hex.EncodeToString(b)
}

// told is a sector in few words.
func told(s api.Sector) string {
	return "{" + strconv.Quote(s.Tag) + ", " + strconv.Itoa(s.Epoch) + ", " + strconv.Itoa(s.Seq) + ", " + strconv.Itoa(s.Place) + ", " + brief(s.Body) + "}"
}

func wantPut(t *testing.T, s api.Sector, want []byte) {
	t.Helper()
	if got, e := sector.Put(s); !bytes.Equal(got, want) || e != api.OK {
		t.Errorf("Put(%s) = %s, %d, want %s, OK", told(s), brief(got), e, brief(want))
	}
}

func wantNoPut(t *testing.T, s api.Sector) {
	t.Helper()
	if got, e := sector.Put(s); len(got) != 0 || e != api.ErrForm {
		t.Errorf("Put(%s) = %s, %d, want none, ErrForm", told(s), brief(got), e)
	}
}

// wantPutAsPlain holds Put of any sector against the chapter's words.
func wantPutAsPlain(t *testing.T, s api.Sector) {
	t.Helper()
	if plainMayBe(s) {
		wantPut(t, s, plainPut(s))
	} else {
		wantNoPut(t, s)
	}
}

func wantGet(t *testing.T, b []byte, want api.Sector) {
	t.Helper()
	if got, e := sector.Get(b); !same(got, want) || e != api.OK {
		t.Errorf("Get(%s) = %s, %d, want %s, OK", brief(b), told(got), e, told(want))
	}
}

func wantNoGet(t *testing.T, b []byte) {
	t.Helper()
	if got, e := sector.Get(b); !same(got, api.Sector{}) || e != api.ErrForm {
		t.Errorf("Get(%s) = %s, %d, want the zero sector, ErrForm", brief(b), told(got), e)
	}
}

// wantGetAsPlain holds Get of any bytes against the chapter's words.
func wantGetAsPlain(t *testing.T, b []byte) {
	t.Helper()
	if s, ok := plainGet(b); ok {
		wantGet(t, b, s)
	} else {
		wantNoGet(t, b)
	}
}

// asked is what Right is asked, as a sector without a body.
func asked(s api.Sector) api.Sector { return sectorOf(s.Tag, s.Epoch, s.Seq, s.Place, nil) }

func right(b []byte, ask api.Sector) ([]byte, bool) {
	return sector.Right(b, ask.Tag, ask.Epoch, ask.Seq, ask.Place)
}

func wantRight(t *testing.T, b []byte, ask api.Sector, want []byte) {
	t.Helper()
	if got, ok := right(b, ask); !bytes.Equal(got, want) || !ok {
		t.Errorf("Right(%s, %s) = %s, %v, want %s, true", brief(b), told(asked(ask)), brief(got), ok, brief(want))
	}
}

func wantNotRight(t *testing.T, b []byte, ask api.Sector) {
	t.Helper()
	if got, ok := right(b, ask); len(got) != 0 || ok {
		t.Errorf("Right(%s, %s) = %s, %v, want none, false", brief(b), told(asked(ask)), brief(got), ok)
	}
}

// wantRightAsPlain holds Right of any bytes against the chapter's words.
func wantRightAsPlain(t *testing.T, b []byte, ask api.Sector) {
	t.Helper()
	if s, ok := plainGet(b); ok && same(asked(s), asked(ask)) {
		wantRight(t, b, ask, s.Body)
	} else {
		wantNotRight(t, b, ask)
	}
}

// wantNone says that the bytes are no sector's, for those who ask for the given one too.
func wantNone(t *testing.T, b []byte, ask api.Sector) {
	t.Helper()
	wantNoGet(t, b)
	wantNotRight(t, b, ask)
}
