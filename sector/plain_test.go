package sector_test

import (
	"bytes"
	"encoding/binary"
	"hash/crc32"
	"math"
	"math/rand/v2"
	"regexp"
	"slices"

	"culvert/api"
)

// The words of the chapter by other means than the package's, to hold the package against: the library's numbers and sums, a pattern for the tags.

const (
	size     = 512
	bodySize = 480
	maxSeq   = 1 << 62
	maxPlace = 8191
)

var tags = []string{"CVS1", "CVD1", "CVC1", "CVO1"}

func sectorOf(tag string, epoch, seq, place int, body []byte) api.Sector {
	return api.Sector{Tag: tag, Epoch: epoch, Seq: seq, Place: place, Body: body}
}

// example is the sector S of the chapter's examples.
func example() api.Sector { return sectorOf("CVO1", 1, 2, 3, []byte("abc")) }

// counted is n bytes, the first one and then each step more than the one ahead.
func counted(first, step, n int) []byte {
	b := make([]byte, n)
	for i := range b {
		b[i] = byte(first + step*i)
	}
	return b
}

// same tells whether two sectors are the same, nil and the empty body being so.
func same(a, b api.Sector) bool {
	return a.Tag == b.Tag && a.Epoch == b.Epoch && a.Seq == b.Seq && a.Place == b.Place && bytes.Equal(a.Body, b.Body)
}

var tagPattern = regexp.MustCompile(`\ACV[SDCO]1\z`)

func plainMayBe(s api.Sector) bool {
	for _, x := range []int{s.Epoch, s.Seq} {
		if x < 1 || uint64(x) > 1<<62 {
			return false
		}
	}
	return tagPattern.MatchString(s.Tag) && s.Place >= 0 && s.Place <= 8191 && len(s.Body) <= 480
}

// laid is the bytes of fields that hold what they are told to, whether a sector may be so or not, with the sum over them.
func laid(tag string, epoch, seq uint64, place uint32, used, zeros uint16, body []byte) []byte {
	b := append([]byte{}, tag...)
	b = binary.BigEndian.AppendUint64(b, epoch)
	b = binary.BigEndian.AppendUint64(b, seq)
	b = binary.BigEndian.AppendUint32(b, place)
	b = binary.BigEndian.AppendUint16(b, used)
	b = binary.BigEndian.AppendUint16(b, zeros)
	b = append(b, body...)
	b = append(b, make([]byte, size-4-len(b))...)
	return binary.BigEndian.AppendUint32(b, plainSum(b))
}

func plainSum(b []byte) uint32 { return crc32.Checksum(b, crc32.MakeTable(crc32.Castagnoli)) }

// plainPut is the bytes of a sector that may be.
func plainPut(s api.Sector) []byte {
	return laid(s.Tag, uint64(s.Epoch), uint64(s.Seq), uint32(s.Place), uint16(len(s.Body)), 0, s.Body)
}

// summed is the bytes with the sum made right.
func summed(b []byte) []byte {
	return binary.BigEndian.AppendUint32(bytes.Clone(b[:size-4]), plainSum(b[:size-4]))
}

// with is the bytes with others written over them from a place on; the sum is left as it was.
func with(b []byte, at int, other ...byte) []byte {
	out := bytes.Clone(b)
	copy(out[at:], other)
	return out
}

// plainGet goes through the rows of the chapter's table.
func plainGet(b []byte) (api.Sector, bool) {
	if len(b) != size || binary.BigEndian.Uint32(b[508:]) != plainSum(b[:508]) {
		return api.Sector{}, false
	}
	if !tagPattern.Match(b[:4]) || b[26] != 0 || b[27] != 0 {
		return api.Sector{}, false
	}
	epoch, seq := binary.BigEndian.Uint64(b[4:]), binary.BigEndian.Uint64(b[12:])
	place, used := binary.BigEndian.Uint32(b[20:]), int(binary.BigEndian.Uint16(b[24:]))
	if epoch < 1 || epoch > maxSeq || seq < 1 || seq > maxSeq || place > maxPlace || used > bodySize {
		return api.Sector{}, false
	}
	if slices.ContainsFunc(b[28+used:508], func(x byte) bool { return x != 0 }) {
		return api.Sector{}, false
	}
	return sectorOf(string(b[:4]), int(epoch), int(seq), int(place), b[28:28+used]), true
}

// sampler makes things that are the same at every run.
type sampler struct{ *rand.Rand }

func newSampler(seed uint64) sampler { return sampler{rand.New(rand.NewPCG(seed, 11))} }

func (s sampler) list(n int) []byte {
	b := make([]byte, n)
	for i := range b {
		b[i] = byte(s.Uint32())
	}
	return b
}

// seq is a number of any length.
func (s sampler) seq() int { return 1 + s.IntN(maxSeq)>>s.IntN(62) }

// sector has numbers of any length, and a body of any length, which ends in zeros at times.
func (s sampler) sector() api.Sector {
	body := s.list(s.IntN(bodySize+1) >> s.IntN(9))
	clear(body[len(body)-s.IntN(len(body)+1)>>s.IntN(9):])
	return sectorOf(tags[s.IntN(4)], s.seq(), s.seq(), s.IntN(maxPlace+1)>>s.IntN(13), body)
}

// edgeSeqs are numbers at the bounds of an epoch or a seq, of an int, and of the bytes in which they stand, with their neighbours.
func edgeSeqs() []int {
	out := []int{math.MinInt, math.MinInt + 1, -1 << 62, -1 << 32, -256, -1, math.MaxInt - 1, math.MaxInt}
	for n := 0; n <= 62; n++ {
		out = append(out, 1<<n-1, 1<<n, 1<<n+1)
	}
	slices.Sort(out)
	return slices.Compact(out)
}

// edgePlaces are the same of a place.
func edgePlaces() []int {
	return []int{math.MinInt, math.MinInt + 3, -1<<32 + 3, -1 << 32, -8192, -256, -2, -1, 0, 1, 2, 255, 256, 257, 4095, 4096, 8190, 8191,
		8192, 8193, 16383, 65535, 65536, 65539, 1<<31 - 1, 1 << 31, 1<<32 - 1, 1 << 32, 1<<32 + 3, 1<<40 + 3, math.MaxInt}
}

// edgeBodies are bodies whose lengths are at the bounds and beyond them.
func edgeBodies() [][]byte {
	out := [][]byte{nil, {}, {0}, {255}, make([]byte, 3), make([]byte, bodySize)}
	for _, n := range []int{1, 2, 3, 4, 28, 255, 256, 257, 478, 479, 480, 481, 482, 484, 508, 512, 513, 65535, 65536, 65537, 65539, 65536 + 480} {
		out = append(out, counted(1, 7, n))
	}
	return out
}

// nearTags are texts that are no tags: shorter, longer, with one byte other, and others.
func nearTags() []string {
	out := []string{"", " ", "C", "CVX1", "cvs1", "CV\x001", "\x00\x00\x00\x00", "CVSDCO1", "CVS1CVS1", "1SVC", "ĈS1", "CVS1\n"}
	for _, tag := range tags {
		out = append(out, tag[:1], tag[:2], tag[:3], tag[1:], tag+"1", tag+"\x00", "C"+tag, " "+tag)
		for i := range tag {
			for x := range 256 {
				if near := tag[:i] + string([]byte{byte(x)}) + tag[i+1:]; !slices.Contains(tags, near) {
					out = append(out, near)
				}
			}
		}
	}
	return out
}

// edgeSectors are sectors at the bounds that may be, each edge with few of the others.
func edgeSectors() []api.Sector {
	var out []api.Sector
	for _, tag := range tags {
		for _, x := range edgeSeqs() {
			out = append(out, sectorOf(tag, x, 1, 0, []byte("e")), sectorOf(tag, maxSeq, x, maxPlace, nil), sectorOf(tag, x, x, 7, []byte("x")))
		}
		for _, x := range edgePlaces() {
			out = append(out, sectorOf(tag, 1, 1, x, nil), sectorOf(tag, maxSeq, maxSeq, x, counted(0, 1, bodySize)))
		}
		for _, body := range edgeBodies() {
			out = append(out, sectorOf(tag, 1, 2, 3, body), sectorOf(tag, maxSeq, maxSeq, maxPlace, body))
		}
	}
	return slices.DeleteFunc(out, func(s api.Sector) bool { return !plainMayBe(s) })
}

// sampleSectors are the edge sectors and many others.
func sampleSectors(seed uint64) []api.Sector {
	s := newSampler(seed)
	out := edgeSectors()
	for range 3000 {
		out = append(out, s.sector())
	}
	return out
}
