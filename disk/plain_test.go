package disk_test

import (
	"bytes"
	"math/rand/v2"
	"slices"
	"strings"

	"culvert/api"
)

// The chapter's words by other means: a device is all that has happened to it, and whatever it tells is found by going through that.

const (
	size  = 512
	least = 32
	most  = 8192

	power = 1 // FaultPower
	io    = 2 // FaultIO
)

type happening struct {
	what   string // write, flush, crash, count, arm, off, claim
	sector int
	data   string
	keep   []bool
	faults []api.Fault
}

type plain struct {
	first []string // the sectors as they were made
	past  []happening
}

func newPlain(b []byte) *plain {
	var p plain
	for sector := range slices.Chunk(b, size) {
		p.first = append(p.first, string(sector))
	}
	return &p
}

func (p *plain) happens(h happening) { p.past = append(p.past, h) }

// behind is the part of the past behind the latest of some happenings.
func (p *plain) behind(whats ...string) []happening {
	at := len(p.past)
	for at > 0 && !slices.Contains(whats, p.past[at-1].what) {
		at--
	}
	return p.past[at:]
}

func count(past []happening, what string) int {
	n := 0
	for _, h := range past {
		if h.what == what {
			n++
		}
	}
	return n
}

// stands goes through the whole past: the sectors that last, and the writes that pend.
func (p *plain) stands() (lasting []string, pending []happening) {
	lasting = slices.Clone(p.first)
	for _, h := range p.past {
		switch h.what {
		case "write":
			pending = append(pending, h)
		case "flush", "crash":
			for i, w := range pending {
				if h.what == "flush" || i < len(h.keep) && h.keep[i] {
					lasting[w.sector] = w.data
				}
			}
			pending = nil
		}
	}
	return lasting, pending
}

func (p *plain) power() bool  { return count(p.behind("crash"), "off") == 0 }
func (p *plain) done() int    { return count(p.behind("arm", "crash"), "count") }
func (p *plain) claimed() int { return count(p.past, "claim") }

func (p *plain) durable() []byte {
	lasting, _ := p.stands()
	return []byte(strings.Join(lasting, ""))
}

func (p *plain) pending() []api.Pending {
	var out []api.Pending
	_, pending := p.stands()
	for _, w := range pending {
		out = append(out, api.Pending{Sector: w.sector, Data: []byte(w.data)})
	}
	return out
}

// armed are the faults of the latest Arm, if no Crash came behind it.
func (p *plain) armed() []api.Fault {
	var out []api.Fault
	for _, h := range p.behind("crash") {
		if h.what == "arm" {
			out = h.faults
		}
	}
	return out
}

func (p *plain) operate() api.Errno {
	if !p.power() {
		return api.ErrPower
	}
	p.happens(happening{what: "count"})
	for _, f := range p.armed() {
		if f.At == p.done() && f.Kind == power {
			p.happens(happening{what: "off"})
			return api.ErrPower
		}
		if f.At == p.done() {
			return api.ErrIO
		}
	}
	return api.OK
}

func (p *plain) has(i int) bool { return 0 <= i && i < len(p.first) }

func (p *plain) read(i int) ([]byte, api.Errno) {
	if !p.has(i) {
		return nil, api.ErrSector
	}
	if e := p.operate(); e != api.OK {
		return nil, e
	}
	lasting, pending := p.stands()
	out := lasting[i]
	for _, w := range pending {
		if w.sector == i {
			out = w.data
		}
	}
	return []byte(out), api.OK
}

func (p *plain) write(i int, b []byte) api.Errno {
	if !p.has(i) {
		return api.ErrSector
	}
	if len(b) != size {
		return api.ErrLength
	}
	e := p.operate()
	if e == api.OK {
		p.happens(happening{what: "write", sector: i, data: string(b)})
	}
	return e
}

func (p *plain) flush() api.Errno {
	e := p.operate()
	if e == api.OK {
		p.happens(happening{what: "flush"})
	}
	return e
}

func (p *plain) arm(l []api.Fault) api.Errno {
	for i, f := range l {
		if f.At < 1 || f.Kind != power && f.Kind != io {
			return api.ErrArm
		}
		for _, g := range l[:i] {
			if f.At == g.At {
				return api.ErrArm
			}
		}
	}
	if !p.power() {
		return api.ErrPower
	}
	p.happens(happening{what: "arm", faults: slices.Clone(l)})
	return api.OK
}

func (p *plain) crash(keep []bool) { p.happens(happening{what: "crash", keep: slices.Clone(keep)}) }

func (p *plain) claim() int {
	p.happens(happening{what: "claim"})
	return p.claimed()
}

// full is a sector of one byte over and over.
func full(x byte) []byte { return bytes.Repeat([]byte{x}, size) }

// numbered is a sector whose bytes are unlike those of other numbers, and unlike one another in their order.
func numbered(k int) []byte {
	b := make([]byte, size)
	for i := range b {
		b[i] = byte(k>>(i%4*8) ^ i*7 ^ i>>8)
	}
	return b
}

// image is a device's bytes, each sector another one.
func image(sectors int) []byte {
	var out []byte
	for i := range sectors {
		out = append(out, numbered(1000+i)...)
	}
	return out
}

// sampler makes things that are the same at every run.
type sampler struct{ *rand.Rand }

func newSampler(seed uint64) sampler { return sampler{rand.New(rand.NewPCG(seed, 10))} }

func (s sampler) keep(longest int) []bool {
	out := make([]bool, s.IntN(longest+1))
	for i := range out {
		out[i] = s.IntN(2) == 0
	}
	return out
}

// faults are some that mostly may be armed, within the next operations or a little behind them, in any order.
func (s sampler) faults() []api.Fault {
	out := make([]api.Fault, s.IntN(4))
	for i := range out {
		out[i] = api.Fault{At: 1 + s.IntN(12), Kind: 1 + s.IntN(2)}
	}
	if s.IntN(10) == 0 {
		out = append(out, api.Fault{At: s.IntN(4) - 1, Kind: s.IntN(5) - 1})
	}
	return out
}
