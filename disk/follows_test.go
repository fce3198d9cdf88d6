package disk_test

import (
	"bytes"
	"fmt"
	"math"
	"reflect"
	"testing"

	"culvert/api"
	"culvert/disk"
)

// both is a device beside its plain form; each call is made at both, and their answers are held against each other.
type both struct {
	t    *testing.T
	d    *disk.Disk
	p    *plain
	past []string // the calls, to be told where the two differ
}

func newBoth(t *testing.T, b []byte) *both {
	t.Helper()
	return &both{t: t, d: made(t, b), p: newPlain(b)}
}

func (x *both) same(call string, got, want any) {
	x.t.Helper()
	x.past = append(x.past, call)
	if !reflect.DeepEqual(got, want) {
		x.t.Fatalf("%v: the last one answers %v, want %v", x.past, got, want)
	}
}

func (x *both) read(i int) {
	b, e := x.d.Read(i)
	want, wantE := x.p.read(i)
	x.same(fmt.Sprintf("Read(%d)", i), e, wantE)
	if !bytes.Equal(b, want) {
		x.t.Fatalf("%v: the last one answers %s, want %s", x.past, brief(b), brief(want))
	}
}

func (x *both) write(i int, b []byte) {
	x.same(fmt.Sprintf("Write(%d, %s)", i, brief(b)), x.d.Write(i, b), x.p.write(i, b))
}

func (x *both) flush() { x.same("Flush()", x.d.Flush(), x.p.flush()) }

func (x *both) arm(l ...api.Fault) { x.same(fmt.Sprintf("Arm(%v)", l), x.d.Arm(l), x.p.arm(l)) }

func (x *both) crash(keep ...bool) {
	x.d.Crash(keep)
	x.p.crash(keep)
	x.past = append(x.past, fmt.Sprintf("Crash(%v)", keep))
}

func (x *both) claim() { x.same("Claim()", x.d.Claim(), x.p.claim()) }

// look holds all looks against the plain form's.
func (x *both) look() {
	x.t.Helper()
	want := stand{len(x.p.first), x.p.power(), x.p.done(), x.p.claimed(), x.p.pending(), x.p.durable()}
	if got := standOf(x.d); !reflect.DeepEqual(got, want) {
		x.t.Fatalf("%v: the device stands: %v, want: %v", x.past, got, want)
	}
}

type move func(x *both)

// moves are calls of all kinds, few enough to try all plays of some of them.
func moves() []move {
	return []move{
		func(x *both) { x.write(0, full('A')) },
		func(x *both) { x.write(0, full('B')) },
		func(x *both) { x.write(31, full('C')) },
		func(x *both) { x.read(0) },
		func(x *both) { x.flush() },
		func(x *both) { x.arm(fault(1, io)) },
		func(x *both) { x.arm(fault(2, power)) },
		func(x *both) { x.crash() },
		func(x *both) { x.crash(true) },
		func(x *both) { x.crash(false, true, true) },
		func(x *both) { x.arm() },
		func(x *both) { x.arm(fault(3, io), fault(1, power)) },
		func(x *both) { x.arm(fault(0, io)) },
		func(x *both) { x.claim() },
		func(x *both) { x.write(32, full('A')) },
		func(x *both) { x.write(0, full('A')[:511]) },
		func(x *both) { x.read(-1) },
	}
}

// allPlays makes all plays of so many of these moves, and looks behind the last one.
func allPlays(t *testing.T, moves []move, length int) {
	b := image(32)
	play := make([]int, length)
	for {
		x := newBoth(t, b)
		for _, m := range play {
			moves[m](x)
		}
		x.look()
		at := 0
		for at < length && play[at] == len(moves)-1 {
			play[at] = 0
			at++
		}
		if at == length {
			return
		}
		play[at]++
	}
}

// P10.2 to P10.7, P10.9, P10.10: all plays of up to three calls of all kinds, and of five of those that do most.
func TestAllShortPlays(t *testing.T) {
	for length := range 4 {
		allPlays(t, moves(), length)
	}
	allPlays(t, moves()[:9], 4)
	allPlays(t, moves()[:8], 5)
}

// anyMove is some call, mostly one that may be, at one of few sectors.
func (s sampler) anyMove(k int) move {
	sectors := []int{0, 1, 2, 15, 30, 31}
	i := sectors[s.IntN(len(sectors))]
	switch s.IntN(24) {
	case 0, 1, 2, 3, 4, 5, 6:
		return func(x *both) { x.write(i, numbered(k)) }
	case 7, 8, 9, 10, 11:
		return func(x *both) { x.read(i) }
	case 12, 13, 14:
		return func(x *both) { x.flush() }
	case 15, 16, 17:
		faults := s.faults()
		return func(x *both) { x.arm(faults...) }
	case 18, 19, 20:
		keep := s.keep(8)
		return func(x *both) { x.crash(keep...) }
	case 21:
		return func(x *both) { x.claim() }
	}
	return s.wrongMove(k)
}

// wrongMove is a call that may not be, or one far out.
func (s sampler) wrongMove(k int) move {
	far := []int{-1, 32, 33, math.MinInt, math.MaxInt}[s.IntN(5)]
	length := []int{0, 511, 513}[s.IntN(3)]
	switch s.IntN(5) {
	case 0:
		return func(x *both) { x.read(far) }
	case 1:
		return func(x *both) { x.write(far, numbered(k)) }
	case 2:
		return func(x *both) { x.write(3, make([]byte, length)) }
	case 3:
		return func(x *both) { x.write(far, make([]byte, length)) }
	}
	return func(x *both) { x.arm(fault(1, io), fault(far, io)) }
}

// P10.2 to P10.7, P10.9, P10.10: long plays, looked at behind each call.
func TestLongPlays(t *testing.T) {
	for seed := range uint64(150) {
		s := newSampler(seed)
		x := newBoth(t, image(32))
		for k := range 120 {
			s.anyMove(k)(x)
			x.look()
		}
	}
}

// laid tells what of a play is to change what lasts: the writes and flushes that were done, and what the crashes kept.
func laid(p *plain) []happening {
	var out []happening
	for _, h := range p.past {
		if h.what == "write" || h.what == "flush" || h.what == "crash" {
			out = append(out, h)
		}
	}
	return out
}

// P10.9: what lasts behind a play is what lasts behind its writes and flushes that were done and its crashes alone: reads, refusals, Arms, claims and looks change nothing of it.
func TestWhatLasts(t *testing.T) {
	for seed := range uint64(100) {
		s := newSampler(1000 + seed)
		x := newBoth(t, image(32))
		for k := range 150 {
			s.anyMove(k)(x)
		}
		alone := made(t, image(32))
		for _, h := range laid(x.p) {
			switch h.what {
			case "write":
				write(t, alone, h.sector, []byte(h.data))
			case "flush":
				flush(t, alone)
			case "crash":
				alone.Crash(h.keep)
			}
		}
		if !bytes.Equal(x.d.Durable(), alone.Durable()) {
			t.Fatalf("seed %d: what lasts is not what its writes, flushes and crashes leave", seed)
		}
		x.d.Crash(nil)
		if !bytes.Equal(x.d.Durable(), alone.Durable()) {
			t.Fatalf("seed %d: what lasts is not what a Crash that keeps nothing leaves", seed)
		}
	}
}

// P10.10: behind a flush that was done, and behind each Crash, all reads are what lasts.
func TestReadsAreWhatLasts(t *testing.T) {
	for seed := range uint64(60) {
		s := newSampler(2000 + seed)
		x := newBoth(t, image(32))
		for k := range 300 {
			s.anyMove(k)(x)
			if s.IntN(8) > 0 {
				continue
			}
			if s.IntN(2) == 0 || x.d.Arm(nil) != api.OK || x.d.Flush() != api.OK {
				x.d.Crash(s.keep(8))
			}
			lasts := x.d.Durable()
			for i := range 32 {
				wantRead(t, x.d, i, lasts[i*512:(i+1)*512])
			}
			x = newBoth(t, lasts)
		}
	}
}

// P10.10: a Write that was done is what reads of its sector tell till the next one to it that is done, or the next Crash: through flushes, refusals and writes elsewhere.
func TestWrittenIsRead(t *testing.T) {
	for seed := range uint64(60) {
		s := newSampler(3000 + seed)
		d := disk.New(32)
		told := map[int][]byte{}
		for k := range 200 {
			i := s.IntN(6)
			switch s.IntN(6) {
			case 0, 1:
				if d.Write(i, numbered(k)) == api.OK {
					told[i] = numbered(k)
				}
			case 2:
				d.Flush()
			case 3:
				d.Arm([]api.Fault{fault(1+s.IntN(4), io), fault(5+s.IntN(20), 1+s.IntN(2))})
			case 4:
				if s.IntN(4) == 0 {
					d.Crash(s.keep(8))
					told = map[int][]byte{}
				}
			}
			b, e := d.Read(i)
			if want := told[i]; e == api.OK && want != nil && !bytes.Equal(b, want) {
				t.Fatalf("seed %d, step %d: Read(%d) = %s, want %s", seed, k, i, brief(b), brief(want))
			}
		}
	}
}

// P10.8, P0.4: two devices of the same bytes, of which just one is used: the other stands as it stood, and meets nothing.
func TestOtherDevice(t *testing.T) {
	for _, anew := range []func() *disk.Disk{
		func() *disk.Disk { return disk.New(32) },
		func() *disk.Disk { return made(t, image(32)) },
	} {
		one, two := anew(), anew()
		write(t, two, 3, full('Y'))
		arm(t, two, fault(3, io))
		was := standOf(two)
		one.Claim()
		write(t, one, 3, full('A'))
		write(t, one, 4, full('B'))
		flush(t, one)
		write(t, one, 5, full('C'))
		arm(t, one, fault(1, io), fault(2, power))
		wantErr(t, "Flush", one.Flush(), api.ErrIO)
		wantErr(t, "Flush", one.Flush(), api.ErrPower)
		wantStand(t, "the other device", two, was)
		wantMeets(t, "the other device", two, api.OK, api.OK, api.ErrIO, api.OK)
		one.Crash([]bool{true})
		wantRead(t, two, 3, full('O'))
		if n := two.Claim(); n != 1 {
			t.Errorf("the other device's Claim() = %d", n)
		}
	}
}

// P10.8, P0.4: devices played side by side, of one image, answer as each alone would.
func TestDevicesSideBySide(t *testing.T) {
	b := image(32)
	for seed := range uint64(20) {
		var all []*both
		var samplers []sampler
		for k := range uint64(4) {
			all = append(all, newBoth(t, b))
			samplers = append(samplers, newSampler(4000+4*seed+k))
		}
		turn := newSampler(seed)
		for k := range 200 {
			i := turn.IntN(len(all))
			samplers[i].anyMove(k)(all[i])
			for _, x := range all {
				x.look()
			}
		}
	}
}
