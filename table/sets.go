package table

import (
	"bytes"

	"culvert/api"
	"culvert/bits"
)

// kindGone and kindSet are the first byte of a set.
const (
	kindGone uint8 = 0
	kindSet  uint8 = 1
)

// mayBe tells whether a set may be done.
func mayBe(s api.Set) bool {
	switch {
	case len(s.Key) < 1 || len(s.Key) > api.MaxRowKey:
		return false
	case s.Gone:
		return len(s.Value) == 0
	}
	return len(s.Value) <= api.MaxRowValue
}

// PutSets is sets as bytes.
func PutSets(l []api.Set) ([]byte, api.Errno) {
	var b, last []byte // a key has bytes, so the first one is above none
	for _, s := range l {
		if !mayBe(s) || bytes.Compare(s.Key, last) <= 0 {
			return nil, api.ErrRow
		}
		b = append(b, head(s)...)
		b = append(b, s.Key...)
		b = append(b, s.Value...)
		last = s.Key
	}
	return b, api.OK
}

// head are the bytes of a set that stand ahead of its key.
func head(s api.Set) []byte {
	kind := kindSet
	if s.Gone {
		kind = kindGone
	}
	b := bits.Put(nil, kind)
	b = bits.Put(b, uint8(len(s.Key)))
	return bits.Put(b, uint16(len(s.Value)))
}

// GetSets reads sets.
func GetSets(b []byte) ([]api.Set, api.Errno) {
	var l []api.Set
	r := bits.NewReader(b)
	for r.Left() > 0 {
		l = append(l, readSet(r))
	}
	// What was read must come to the very bytes again. So the reader need not be asked: of bytes that break off the last set lacks its key, or has not the length that they tell.
	again, e := PutSets(l)
	if e != api.OK || !bytes.Equal(again, b) {
		return nil, api.ErrRow
	}
	return l, api.OK
}

// readSet reads a set as it comes, whether it may be or not.
func readSet(r *bits.Reader) api.Set {
	kind := bits.Get[uint8](r)
	keyLength := bits.Get[uint8](r)
	valueLength := bits.Get[uint16](r)
	key := r.Bytes(int(keyLength))
	value := r.Bytes(int(valueLength))
	return api.Set{Key: key, Value: value, Gone: kind == kindGone}
}
