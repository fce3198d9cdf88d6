package gcm_test

import (
	"bytes"
	"testing"

	"culvert/api"
	"culvert/gcm"
)

// room is a list in the middle of a longer one, whose bytes ahead and behind are watched too.
type room struct {
	all, was []byte
	list     []byte
}

func newRoom(list []byte) *room {
	const around = 50
	all := counted(100, 11, around)
	all = append(all, list...)
	all = append(all, counted(200, 13, around)...)
	return &room{all, bytes.Clone(all), all[around : around+len(list)]}
}

func (r *room) unchanged() bool { return bytes.Equal(r.all, r.was) }

// rooms are a key, a nonce, additional data and a text (or what was sealed), each in a room of its own.
type rooms [4]*room

func newRooms(lists ...[]byte) rooms {
	var out rooms
	for i, list := range lists {
		out[i] = newRoom(list)
	}
	return out
}

func (r rooms) seal() ([]byte, api.Errno) {
	return gcm.Seal(r[0].list, r[1].list, r[2].list, r[3].list)
}

func (r rooms) open() ([]byte, bool) {
	return gcm.Open(r[0].list, r[1].list, r[2].list, r[3].list)
}

func (r rooms) wantUnchanged(t *testing.T, what string) {
	t.Helper()
	for i, name := range []string{"key", "nonce", "additional data", "text"} {
		if !r[i].unchanged() {
			t.Errorf("%s: the %s, or what lies around it, has become %s", what, name, brief(r[i].all))
		}
	}
}

// spoil writes over all that a caller may write over.
func spoil(list []byte) {
	list = list[:cap(list)]
	for i := range list {
		list[i] ^= 0xA5
	}
}

func (r rooms) spoil() {
	for _, x := range r {
		spoil(x.all)
	}
}

var memoryLengths = []int{0, 1, 15, 16, 17, 40, 1000}

// P5.3: Seal changes nothing that is handed in, whether it seals or refuses.
func TestSealLeavesItsLists(t *testing.T) {
	for _, n := range memoryLengths {
		for _, m := range memoryLengths {
			r := newRooms(someKey(), someNonce(), counted(1, 3, n), counted(2, 5, m))
			r.seal()
			r.wantUnchanged(t, "Seal")
		}
	}
	long := make([]byte, api.MaxText+1)
	for _, r := range []rooms{
		newRooms(make([]byte, 31), someNonce(), nil, nil), newRooms(make([]byte, 33), someNonce(), []byte("head"), []byte("text")),
		newRooms(someKey(), make([]byte, 11), nil, nil), newRooms(someKey(), make([]byte, 13), []byte("head"), []byte("text")),
		newRooms(someKey(), someNonce(), long, []byte("text")), newRooms(someKey(), someNonce(), []byte("head"), long),
		newRooms(someKey(), someNonce(), long[1:], long[1:]),
	} {
		r.seal()
		r.wantUnchanged(t, "Seal at an edge")
	}
}

// P5.3: Open changes nothing that is handed in, whether it opens or refuses.
func TestOpenLeavesItsLists(t *testing.T) {
	for _, n := range memoryLengths {
		for _, m := range memoryLengths {
			ad := counted(1, 3, n)
			sealed := mustSeal(t, someKey(), someNonce(), ad, counted(2, 5, m))
			r := newRooms(someKey(), someNonce(), ad, sealed)
			if _, ok := r.open(); !ok {
				t.Fatalf("Open of %d and %d bytes: false", n, m)
			}
			r.wantUnchanged(t, "Open")
			sealed[len(sealed)-1]++
			r = newRooms(someKey(), someNonce(), ad, sealed)
			r.open()
			r.wantUnchanged(t, "Open that refuses")
		}
	}
	for _, n := range []int{0, 15, 16, api.MaxText + 16, api.MaxText + 17} {
		r := newRooms(someKey(), someNonce(), nil, make([]byte, n))
		r.open()
		r.wantUnchanged(t, "Open at an edge")
	}
}

// P5.3: what Seal answered does not hang on lists that their owner changes behind the call, nor they on what a caller writes into the answer.
func TestSealAnswersNewMemory(t *testing.T) {
	for _, n := range memoryLengths {
		for _, m := range memoryLengths {
			r := newRooms(someKey(), someNonce(), counted(1, 3, n), counted(2, 5, m))
			one, _ := r.seal()
			two, _ := r.seal()
			want := bytes.Clone(one)
			spoil(one)
			r.wantUnchanged(t, "behind a write into the answer")
			wantBytes(t, "another answer", two, want)
			again, _ := r.seal()
			wantBytes(t, "Seal behind a write into an answer", again, want)
			r.spoil()
			wantBytes(t, "the answer behind a change of the lists", two, want)
			wantBytes(t, "the next one", again, want)
		}
	}
}

// P5.3: the same of what Open answered.
func TestOpenAnswersNewMemory(t *testing.T) {
	for _, n := range memoryLengths {
		for _, m := range memoryLengths {
			ad, want := counted(1, 3, n), counted(2, 5, m)
			r := newRooms(someKey(), someNonce(), ad, mustSeal(t, someKey(), someNonce(), ad, want))
			one, _ := r.open()
			two, _ := r.open()
			spoil(one)
			r.wantUnchanged(t, "behind a write into the answer")
			wantBytes(t, "another answer", two, want)
			again, _ := r.open()
			wantBytes(t, "Open behind a write into an answer", again, want)
			r.spoil()
			wantBytes(t, "the answer behind a change of the lists", two, want)
			wantBytes(t, "the next one", again, want)
		}
	}
}

// P5.3: nothing of a list is kept: what its owner makes of it behind a call is what the next call takes.
func TestNothingIsKept(t *testing.T) {
	lists := [4][]byte{someKey(), someNonce(), counted(1, 3, 20), counted(2, 5, 40)}
	for i := range lists {
		mustSeal(t, lists[0], lists[1], lists[2], lists[3])
		for j := range lists[i] {
			lists[i][j] ^= 0x3C
		}
		want := librarySeal(lists[0], lists[1], lists[2], lists[3])
		wantBytes(t, "Seal behind a change of a list", mustSeal(t, lists[0], lists[1], lists[2], lists[3]), want)
		wantOpened(t, "behind a change of a list", lists[0], lists[1], lists[2], want, lists[3])
	}
}

// P5.3: what a caller appends to an answer is seen by no other.
func TestAppendingToAnswers(t *testing.T) {
	key, nonce, ad, text := someKey(), someNonce(), []byte("head"), counted(2, 5, 40)
	one, two := mustSeal(t, key, nonce, ad, text), mustSeal(t, key, nonce, ad, text)
	want := bytes.Clone(two)
	longer := append(one, counted(7, 7, 100)...)
	wantBytes(t, "another answer of Seal", two, want)
	opened, _ := gcm.Open(key, nonce, ad, longer[:len(want)])
	more := append(opened, counted(9, 9, 100)...)
	wantBytes(t, "what was opened", longer, append(bytes.Clone(want), counted(7, 7, 100)...))
	again, _ := gcm.Open(key, nonce, ad, two)
	_ = append(again, counted(5, 5, 100)...)
	wantBytes(t, "another answer of Open", more, append(bytes.Clone(text), counted(9, 9, 100)...))
}

// P5.3: one list may be handed in as several.
func TestOneListAsSeveral(t *testing.T) {
	all := counted(3, 7, 100)
	was := bytes.Clone(all)
	sealed := mustSeal(t, all[:32], all[:12], all, all[10:])
	wantBytes(t, "Seal", sealed, librarySeal(was[:32], was[:12], was, was[10:]))
	wantOpened(t, "one list as several", all[:32], all[:12], all, sealed, was[10:])
	wantBytes(t, "the list", all, was)

	// What was sealed, with the key, the nonce and the additional data behind it in one list.
	joined := append(append(bytes.Clone(sealed), was[:32]...), was...)
	n := len(sealed)
	wantOpened(t, "side by side", joined[n:n+32], joined[n+32:n+44], joined[n+32:], joined[:n], was[10:])
	wantBytes(t, "all side by side", joined[:n], sealed)
	wantBytes(t, "all side by side", joined[n+32:], was)
}
