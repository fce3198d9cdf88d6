package audit_test

import (
	"bytes"
	"encoding/binary"
	"fmt"
	"slices"
	"testing"

	"culvert/api"
)

// tx is a transaction: of rows, long or short, or of none.
func (s sampler) tx() []byte {
	switch s.IntN(12) {
	case 0:
		return s.list(1 + s.IntN(20))
	case 1:
		return setBytes(api.Set{Key: []byte("X"), Gone: s.IntN(3) > 0})
	case 2, 3:
		return setBytes(rowsOf(fullWide())...)
	}
	var lanes []api.Lane
	for i := range s.IntN(9) {
		lanes = append(lanes, newLane(key(i), i%2))
	}
	return setBytes(rowsOf(nil, lanes, s.IntN(4))...)
}

// device is bytes that a log might have left, in both halves: logs of several epochs, one over the other, as far as there is room.
func (s sampler) device() image {
	n := pick(s, 32, 33, 34, 40)
	m := zeros(n)
	epoch := pick(s, 1, 2, 5, 6, maxSeq-2)
	seq := pick(s, 1, 2, 40, maxSeq-6)
	for range 1 + s.IntN(4) {
		state := pick(s, nil, s.tx(), setBytes(rowsOf(fullWide())...))
		m[epoch%2] = superFor(n, epoch, seq, state)
		region := m[m.first(epoch):][:m.room()]
		place := copy(region, pieceSectors(epoch, seq, 0, state))
		for range s.IntN(5) {
			tx := txSectors(epoch, seq, place, s.tx())
			if place+len(tx) > len(region) || seq > maxSeq {
				break
			}
			if s.IntN(10) == 0 && len(tx) > 1 {
				copy(region[place:], tx[:len(tx)-1]) // given up
				break
			}
			place += copy(region[place:], tx)
			seq++
		}
		if epoch == maxSeq || seq > maxSeq {
			break
		}
		epoch++
	}
	return m
}

// at is a sector, one that is used more often than not.
func (s sampler) at(m image) int {
	for range 20 {
		if i := s.IntN(len(m)); !isZeros(m[i]) {
			return i
		}
	}
	return s.IntN(len(m))
}

// turn changes a number of a sector, in its field, by a little or altogether; the sum may be made right again.
func (s sampler) turn(b []byte) []byte {
	out := bytes.Clone(b)
	switch s.IntN(6) {
	case 0:
		copy(out, pick(s, "CVS1", "CVD1", "CVC1", "CVO1", "CVX1"))
	case 1, 2:
		at := pick(s, 4, 12)
		x := binary.BigEndian.Uint64(out[at:])
		binary.BigEndian.PutUint64(out[at:], pick(s, x+1, x-1, x+2, x-2, 1, 2, maxSeq, maxSeq+1))
	case 3:
		x := binary.BigEndian.Uint32(out[20:])
		binary.BigEndian.PutUint32(out[20:], pick(s, x+1, x-1, x+15, 0, 8191, 8192))
	case 4:
		x := binary.BigEndian.Uint16(out[24:])
		binary.BigEndian.PutUint16(out[24:], pick(s, x+1, x-1, 0, 480, 481))
	default:
		out[s.IntN(size)] ^= 1 << s.IntN(8)
	}
	if s.IntN(4) > 0 {
		out = summed(out)
	}
	return out
}

// moved is a sector that says that it stands at a place, of an epoch.
func moved(b []byte, epoch uint64, place int) []byte {
	out := bytes.Clone(b)
	binary.BigEndian.PutUint64(out[4:], epoch)
	binary.BigEndian.PutUint32(out[20:], uint32(place))
	return summed(out)
}

// strike does something to a device that no log does.
func (s sampler) strike(m image) {
	i, j := s.at(m), s.IntN(len(m))
	switch s.IntN(10) {
	case 0, 1, 2, 3:
		m[i] = s.turn(m[i])
	case 4:
		m[i], m[j] = m[j], m[i]
	case 5:
		m[j] = bytes.Clone(m[i])
	case 6:
		if j < 2 {
			return
		}
		region := (j - 2) / m.room() % 2
		epoch := binary.BigEndian.Uint64(m[i][4:])
		m[j] = moved(m[i], pick(s, epoch, epoch+1, epoch&^1|uint64(region)), j-m.first(region))
	case 7:
		m[i] = make([]byte, size)
	case 8:
		m[j] = s.list(size)
	default:
		m[j] = turned(m[j], s.IntN(size), byte(1+s.IntN(255)))
	}
}

// P24.1, P24.2: any bytes: such as logs leave, struck in one or some places, against the plain forms.
func TestAnyBytes(t *testing.T) {
	t.Parallel()
	for part := range 4 {
		t.Run(fmt.Sprint(part), func(t *testing.T) {
			t.Parallel()
			tally := map[string]int{}
			for seed := range 1500 {
				s := newSampler(uint64(10000*(part+1) + seed))
				m := s.device()
				for range s.IntN(5) {
					s.strike(m)
				}
				b := m.bytes()
				if s.IntN(100) == 0 {
					b = b[:s.IntN(len(b))]
				}
				wantPlain(t, fmt.Sprint("the seed ", seed, " of ", part), b)
				c := plainCheck(b)
				for _, line := range c.lines {
					tally[line]++
				}
				tally[fmt.Sprint("error ", int(c.err), ", lines: ", min(len(c.lines), 3))]++
			}
			for _, what := range []string{"super 0", "super 1", "sector 2", "sector 17", "state 110", "state 113", "state 114", "error 0, lines: 0", "error 0, lines: 1", "error 0, lines: 2", "error 0, lines: 3", "error 100, lines: 0"} {
				if tally[what] < 5 {
					t.Errorf("%s: only %d times", what, tally[what])
				}
			}
		})
	}
}

// P24.2: where all that stands on a device are sectors whose sums are right: any tag, epoch, seq and place, near those of the log, everywhere.
func TestAnySectors(t *testing.T) {
	t.Parallel()
	for seed := range 600 {
		s := newSampler(uint64(900000 + seed))
		m := s.device()
		l := plainLog(m)
		for i := range m {
			if isZeros(m[i]) && s.IntN(2) == 0 || s.IntN(30) == 0 {
				region := s.IntN(2)
				place := max(i-m.first(region), 0)
				place = pick(s, place, place, place, place+1, i)
				epoch := min(max(l.epoch+s.IntN(5)-2, 1), maxSeq)
				seq := min(max(l.next+s.IntN(5)-3, 1), maxSeq)
				m[i] = sec(pick(s, "CVS1", "CVD1", "CVC1", "CVO1"), epoch, seq, place, s.list(pick(s, 0, 1, 16, 480)))
			}
		}
		wantPlain(t, fmt.Sprint("the seed ", seed), m.bytes())
	}
}

// P24.1, P24.2: bytes of few values, of many lengths.
func TestAnyLengths(t *testing.T) {
	t.Parallel()
	s := newSampler(77)
	sound := logged(40, 5, 9, nil, setBytes(rowsOf(nil, nil, 3)...)).bytes()
	for _, n := range slices.Concat(span(0, 1100), span(31*size-3, 31*size+3), span(32*size-3, 32*size+3), span(33*size-600, 33*size+3), span(40*size-3, 40*size+1)) {
		wantPlain(t, fmt.Sprintf("%d bytes", n), sound[:min(n, len(sound))])
	}
	for range 100 {
		wantPlain(t, "any bytes", s.list(s.IntN(40*size)))
	}
}
