package net_test

import (
	"math"
	"math/rand/v2"

	"culvert/api"
)

// The chapter's words by other means: a net is all that has happened to it, and whatever it tells is found by going through that.

const (
	most     = 1024
	noFlight = api.Errno(218)
	noArg    = api.Errno(2)

	leastInt    = math.MinInt
	greatestInt = math.MaxInt
)

type kind int

const (
	sent kind = iota
	copied
	gone
	flipped
)

type happening struct {
	what  kind
	no    int // the flight that it happened to, or that began
	to    int
	data  string
	from  int // the flight that was copied
	at, x int
}

type plain struct{ past []happening }

func (p *plain) happens(h happening) { p.past = append(p.past, h) }

func (p *plain) count(what ...kind) int {
	n := 0
	for _, h := range p.past {
		for _, k := range what {
			if h.what == k {
				n++
			}
		}
	}
	return n
}

func (p *plain) given() int { return p.count(sent, copied) }
func (p *plain) many() int  { return p.given() - p.count(gone) }

// began is the place in the past where a flight began, or -1.
func (p *plain) began(no int) int {
	for i, h := range p.past {
		if h.no == no && (h.what == sent || h.what == copied) {
			return i
		}
	}
	return -1
}

func (p *plain) has(no int) bool {
	for _, h := range p.past {
		if h.no == no && h.what == gone {
			return false
		}
	}
	return p.began(no) >= 0
}

// bytes are those of a flight as they were at a place in the past: those that it began with, and the flips since.
func (p *plain) bytes(no, place int) []byte {
	begin := p.began(no)
	h := p.past[begin]
	out := []byte(h.data)
	if h.what == copied {
		out = p.bytes(h.from, begin)
	}
	for _, f := range p.past[begin:place] {
		if f.what == flipped && f.no == no {
			out[f.at] ^= byte(f.x)
		}
	}
	return out
}

func (p *plain) to(no int) int {
	h := p.past[p.began(no)]
	if h.what == copied {
		return p.to(h.from)
	}
	return h.to
}

func (p *plain) flight(no int) api.Flight {
	return api.Flight{No: no, To: p.to(no), Data: p.bytes(no, len(p.past))}
}

func (p *plain) send(to int, b []byte) int {
	if p.many() == most {
		return 0
	}
	no := p.given() + 1
	p.happens(happening{what: sent, no: no, to: to, data: string(b)})
	return no
}

func (p *plain) take(no int) (api.Flight, api.Errno) {
	if !p.has(no) {
		return api.Flight{}, noFlight
	}
	f := p.flight(no)
	p.happens(happening{what: gone, no: no})
	return f, api.OK
}

func (p *plain) drop(no int) api.Errno {
	if !p.has(no) {
		return noFlight
	}
	p.happens(happening{what: gone, no: no})
	return api.OK
}

func (p *plain) copy(no int) (int, api.Errno) {
	if !p.has(no) {
		return 0, noFlight
	}
	if p.many() == most {
		return 0, api.OK
	}
	next := p.given() + 1
	p.happens(happening{what: copied, no: next, from: no})
	return next, api.OK
}

func (p *plain) flip(no, at, x int) api.Errno {
	if !p.has(no) {
		return noFlight
	}
	for place := range p.bytes(no, len(p.past)) {
		if place == at && 1 <= x && x <= 255 {
			p.happens(happening{what: flipped, no: no, at: at, x: x})
			return api.OK
		}
	}
	return noArg
}

func (p *plain) under() []api.Flight {
	var out []api.Flight
	for i := range p.given() {
		if p.has(i + 1) {
			out = append(out, p.flight(i+1))
		}
	}
	return out
}

// numbered are bytes that are unlike those of other numbers, where there are four of them or more.
func numbered(k, size int) []byte {
	b := make([]byte, size)
	for i := range b {
		b[i] = byte(k>>(i%4*8) ^ i*7 ^ i>>8)
	}
	return b
}

// sampler makes things that are the same at every run.
type sampler struct{ *rand.Rand }

func newSampler(seed uint64) sampler { return sampler{rand.New(rand.NewPCG(seed, 21))} }

func pick[T any](s sampler, l []T) T { return l[s.IntN(len(l))] }

func (s sampler) bytes(longest int) []byte {
	out := make([]byte, s.IntN(longest+1))
	for i := range out {
		out[i] = byte(s.IntN(256))
	}
	return out
}

// edgeInts are numbers at the ends, and at the edges of the kinds that one may be turned into.
func edgeInts() []int {
	return []int{leastInt, leastInt + 1, -1 << 32, -1<<31 - 1, -1 << 31, -1025, -1024, -1023, -257, -256, -255, -128, -7, -2, -1, 0, 1, 2, 3, 127, 128, 255, 256, 257, 1023, 1024, 1025, 1<<31 - 1, 1 << 31, 1<<32 - 1, 1 << 32, 1<<32 + 1, greatestInt - 1, greatestInt}
}
