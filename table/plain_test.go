package table_test

import (
	"encoding/binary"
	"math/rand/v2"
	"slices"
	"strings"

	"culvert/api"
)

// The chapter's words by other means: a table is nothing but all that was done to it, gone through at each question; changes over it are all that was done ahead of them and all that was done with them.

const (
	maxKey   = 40
	maxValue = 480
)

func set(key, value string) api.Set { return api.Set{Key: []byte(key), Value: []byte(value)} }

func gone(key string) api.Set { return api.Set{Key: []byte(key), Gone: true} }

type row struct{ key, value string }

// done is all that was done, one set behind the other.
type done []api.Set

func (d done) and(l ...api.Set) done { return slices.Concat(d, done(l)) }

// get asks the last set of the key.
func (d done) get(key string) (string, bool) {
	for _, s := range slices.Backward(d) {
		if string(s.Key) == key {
			return string(s.Value), !s.Gone
		}
	}
	return "", false
}

// keys are all that were ever named, rising, each once.
func (d done) keys() []string {
	var out []string
	for _, s := range d {
		out = append(out, string(s.Key))
	}
	slices.Sort(out)
	return slices.Compact(out)
}

func (d done) rows() []row {
	var out []row
	for _, key := range d.keys() {
		if value, ok := d.get(key); ok {
			out = append(out, row{key, value})
		}
	}
	return out
}

// bytes are those of a table's rows.
func (d done) bytes() []byte {
	var l []api.Set
	for _, r := range d.rows() {
		l = append(l, set(r.key, r.value))
	}
	b, _ := plainPut(l)
	return b
}

// changes are what was done ahead of Over, and all that was done, with them too.
type changes struct{ before, now done }

func (c changes) and(l ...api.Set) changes { return changes{c.before, c.now.and(l...)} }

func (c changes) sets() []api.Set {
	var out []api.Set
	for _, key := range c.now.keys() {
		was, there := c.before.get(key)
		is, here := c.now.get(key)
		switch {
		case here && (!there || was != is):
			out = append(out, set(key, is))
		case there && !here:
			out = append(out, gone(key))
		}
	}
	return out
}

func plainMayBe(s api.Set) bool {
	most := maxValue
	if s.Gone {
		most = 0
	}
	return 1 <= len(s.Key) && len(s.Key) <= maxKey && len(s.Value) <= most
}

// plainSet is a set as bytes, whether it may be or not.
func plainSet(s api.Set) []byte {
	b := []byte{1, byte(len(s.Key))}
	if s.Gone {
		b[0] = 0
	}
	b = binary.BigEndian.AppendUint16(b, uint16(len(s.Value)))
	return slices.Concat(b, s.Key, s.Value)
}

func plainPut(l []api.Set) ([]byte, bool) {
	var out []byte
	for i, s := range l {
		if !plainMayBe(s) || i > 0 && string(l[i-1].Key) >= string(s.Key) {
			return nil, false
		}
		out = append(out, plainSet(s)...)
	}
	return out, true
}

// plainGet takes the bytes apart, set by set, and asks of each all that the chapter asks.
func plainGet(b []byte) ([]api.Set, bool) {
	var out []api.Set
	last := ""
	for len(b) > 0 {
		if len(b) < 4 || b[0] > 1 {
			return nil, false
		}
		isGone, n, m := b[0] == 0, int(b[1]), int(b[2])*256+int(b[3])
		if n < 1 || n > maxKey || m > maxValue || isGone && m > 0 || len(b) < 4+n+m {
			return nil, false
		}
		key, value := string(b[4:4+n]), string(b[4+n:4+n+m])
		if key <= last {
			return nil, false
		}
		out = append(out, api.Set{Key: []byte(key), Value: []byte(value), Gone: isGone})
		last, b = key, b[4+n+m:]
	}
	return out, true
}

// plainFrom takes a table's bytes apart.
func plainFrom(b []byte) (done, bool) {
	l, ok := plainGet(b)
	if !ok || slices.ContainsFunc(l, func(s api.Set) bool { return s.Gone }) {
		return nil, false
	}
	return l, true
}

// counted is a text of any bytes, unlike for each seed.
func counted(seed, n int) string {
	b := make([]byte, n)
	for i := range b {
		b[i] = byte(seed + i*7 + i/256)
	}
	return string(b)
}

// edgeKeys are keys, unlike one another: of the fewest and the most bytes, beginnings of others, bytes that are no letters and no text.
func edgeKeys() []string {
	return []string{
		"\x00", "\x00\x00", "\x01", "a", "a\x00", "aa", "ab", "A", "b", "\x7f", "\x80", "\xc3\xa9", "\xc3", "\xff", "\xff\xfe", "\xff\xff",
		strings.Repeat("k", 39), strings.Repeat("k", 40), strings.Repeat("\x00", 40), strings.Repeat("\xff", 40), counted(3, 40),
	}
}

func edgeValues() []string {
	return []string{"", "\x00", "v", "\xff", counted(1, 39), counted(1, 40), counted(1, 41), counted(2, 255), counted(2, 256), counted(2, 257), counted(2, 479), counted(2, 480), strings.Repeat("\x00", 480)}
}

// noKeys are none: without bytes, with one too many, and with lengths that look right in one byte or in two.
func noKeys() []string {
	var out []string
	for _, n := range []int{0, 41, 42, 64, 128, 255, 256, 257, 256 + 40, 65536, 65537, 65536 + 40} {
		out = append(out, strings.Repeat("k", n))
	}
	return out
}

func noValues() []string {
	var out []string
	for _, n := range []int{481, 482, 511, 512, 512 + 480, 65535, 65536, 65537, 65536 + 480} {
		out = append(out, strings.Repeat("v", n))
	}
	return out
}

// noSets may not be, each for one reason, and some for two.
func noSets() []api.Set {
	out := []api.Set{{}, {Gone: true}, {Value: []byte("v"), Gone: true}, {Key: []byte(noKeys()[1]), Value: []byte(noValues()[0])}}
	for _, key := range noKeys() {
		out = append(out, set(key, ""), set(key, "v"), gone(key))
	}
	for _, value := range noValues() {
		out = append(out, set("m", value))
	}
	for _, value := range append(edgeValues()[1:], noValues()...) {
		s := set("m", value)
		s.Gone = true
		out = append(out, s)
	}
	return out
}

// near are what is asked of a table: its keys, what is just beside them, and what is no key.
func near(keys []string) []string {
	out := append(edgeKeys(), "", strings.Repeat("k", 41), strings.Repeat("a", 257))
	for _, key := range keys {
		out = append(out, key, key+"\x00", "\x00"+key)
		if n := len(key); n > 0 {
			out = append(out, key[:n-1], key[:n-1]+string([]byte{key[n-1] + 1}), key[:n-1]+string([]byte{key[n-1] - 1}))
		}
	}
	return out
}

// small are sets of few keys, one of them a beginning of another one, and few values, none of them too.
func small() []api.Set {
	return []api.Set{set("a", ""), set("a", "1"), gone("a"), set("ab", ""), set("ab", "1"), gone("ab"), set("b", ""), set("b", "1"), gone("b")}
}

// smallRows are all rows that the small sets can make: each key is not there, has no bytes, has one.
func smallRows() []done {
	out := []done{nil}
	for _, key := range []string{"b", "a", "ab"} {
		for _, d := range slices.Clone(out) {
			out = append(out, d.and(set(key, "")), d.and(set(key, "1")))
		}
	}
	return out
}

// lists calls with all lists of up to n of the sets, the shorter ones first.
func lists(sets []api.Set, n int, call func([]api.Set)) {
	level := [][]api.Set{nil}
	for k := 0; ; k++ {
		for _, l := range level {
			call(l)
		}
		if k == n {
			return
		}
		var next [][]api.Set
		for _, l := range level {
			for _, s := range sets {
				next = append(next, append(slices.Clone(l), s))
			}
		}
		level = next
	}
}

type sampler struct{ *rand.Rand }

func newSampler(seed uint64) sampler { return sampler{rand.New(rand.NewPCG(seed, 13))} }

// key is one of few, or any.
func (s sampler) key() string {
	switch s.IntN(8) {
	case 0:
		return edgeKeys()[s.IntN(len(edgeKeys()))]
	case 1:
		return s.text(1 + s.IntN(40))
	}
	return []string{"a", "ab", "b", "ba", "c", "\x00", "\xff"}[s.IntN(7)]
}

func (s sampler) value() string {
	switch s.IntN(8) {
	case 0:
		return edgeValues()[s.IntN(len(edgeValues()))]
	case 1:
		return s.text(s.IntN(481))
	}
	return []string{"", "1", "2"}[s.IntN(3)]
}

func (s sampler) text(n int) string {
	b := make([]byte, n)
	for i := range b {
		b[i] = byte(s.Uint32())
	}
	return string(b)
}

// set may be.
func (s sampler) set() api.Set {
	if s.IntN(3) == 0 {
		return gone(s.key())
	}
	return set(s.key(), s.value())
}

func (s sampler) sets(n int) []api.Set {
	var out []api.Set
	for range n {
		out = append(out, s.set())
	}
	return out
}

// rising are sets whose keys rise.
func (s sampler) rising(n int) []api.Set {
	out := s.sets(n)
	slices.SortFunc(out, func(a, b api.Set) int { return strings.Compare(string(a.Key), string(b.Key)) })
	return slices.CompactFunc(out, func(a, b api.Set) bool { return string(a.Key) == string(b.Key) })
}

func (s sampler) oneOf(l []api.Set) api.Set { return l[s.IntN(len(l))] }
