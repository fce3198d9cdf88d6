package script_test

import (
	"bytes"
	"fmt"
	"math/rand/v2"
	"strings"

	"culvert/api"
)

type sampler struct{ *rand.Rand }

func newSampler(seed uint64) sampler { return sampler{rand.New(rand.NewPCG(seed, 22))} }

func pick[T any](s sampler, l ...T) T { return l[s.IntN(len(l))] }

func (s sampler) number() int {
	return pick(s, 0, 1, s.IntN(10), s.IntN(1000), s.IntN(maxNumber+1), maxNumber-1, maxNumber)
}

func (s sampler) bytes() []byte {
	b := make([]byte, pick(s, 0, 1, 2, 32, s.IntN(80)))
	for i := range b {
		b[i] = byte(s.Uint32())
	}
	return b
}

func (s sampler) stamp() api.Stamp {
	return api.Stamp{Sec: pick(s, 0, 1, s.IntN(1000), s.Int(), 1<<63-1), Nano: pick(s, 0, 1, s.IntN(1000000000), 999999999)}
}

func (s sampler) prefix() api.Prefix {
	if s.IntN(2) == 0 {
		n := s.IntN(33)
		return api.Prefix{Addr: api.Addr{Family: 4, Lo: uint64(s.Uint32()) >> (32 - n) << (32 - n)}, Bits: n}
	}
	n := s.IntN(65)
	if s.IntN(2) == 0 {
		return api.Prefix{Addr: api.Addr{Family: 6, Hi: s.Uint64() >> (64 - n) << (64 - n)}, Bits: n}
	}
	return api.Prefix{Addr: api.Addr{Family: 6, Hi: s.Uint64(), Lo: s.Uint64() >> (64 - n) << (64 - n)}, Bits: 64 + n}
}

func (s sampler) change() api.Change {
	switch 1 + s.IntN(5) {
	case api.ChAdd:
		return add(s.number(), s.bytes(), s.number())
	case api.ChRemove:
		return remove(s.number())
	case api.ChSetKey:
		return setKey(s.number(), s.bytes(), s.number())
	case api.ChAllow:
		return allow(s.number(), s.prefix())
	}
	return deny(s.number(), s.prefix())
}

func (s sampler) changes() []api.Change {
	l := make([]api.Change, pick(s, 0, 1, 2, s.IntN(5), s.IntN(40)))
	for i := range l {
		l[i] = s.change()
	}
	return l
}

func (s sampler) faults() []api.Fault {
	l := make([]api.Fault, pick(s, 0, 1, 2, s.IntN(9)))
	for i := range l {
		l[i] = api.Fault{At: s.number(), Kind: 1 + s.IntN(2)}
	}
	return l
}

func (s sampler) keep() []bool {
	l := make([]bool, pick(s, 0, 1, 2, s.IntN(40)))
	for i := range l {
		l[i] = s.IntN(2) == 0
	}
	return l
}

// full is a step with something in each field, whatever its kind.
func (s sampler) full(kind int) api.Op {
	return api.Op{
		Kind: kind, A: s.number(), K: s.number(), At: s.number(), X: s.number(), Link: s.number(),
		Data: s.bytes(), Stamp: s.stamp(), Params: api.Params{Block: s.number(), Width: s.number()},
		Changes: s.changes(), Faults: s.faults(), Keep: s.keep(),
	}
}

// only is a step without what its kind does not have.
func only(o api.Op) api.Op {
	out := api.Op{Kind: o.Kind}
	switch o.Kind {
	case api.OpCommit, api.OpSend, api.OpRekey, api.OpTick, api.OpJunk, api.OpArm, api.OpCrash, api.OpBoot, api.OpLook:
		out.A = o.A
	default:
		out.K = o.K
	}
	switch o.Kind {
	case api.OpCommit:
		out.Changes = o.Changes
	case api.OpSend, api.OpJunk:
		out.Data = o.Data
	case api.OpRekey:
		out.Link = o.Link
	case api.OpTick:
		out.Stamp = o.Stamp
	case api.OpFlip:
		out.At, out.X = o.At, o.X
	case api.OpArm:
		out.Faults = o.Faults
	case api.OpCrash:
		out.Keep = o.Keep
	case api.OpBoot:
		out.Params = o.Params
	}
	return out
}

func (s sampler) op() api.Op { return only(s.full(1 + s.IntN(14))) }

func (s sampler) script() api.Script {
	out := api.Script{Sectors: s.number()}
	for range pick(s, 0, 1, 2, s.IntN(6), s.IntN(40)) {
		out.Ops = append(out.Ops, s.op())
	}
	return out
}

// spoilOp brings something into a step that may be wrong, or not.
func (s sampler) spoilOp(o api.Op) api.Op {
	odd := pick(s, -1, maxNumber+1, -1<<63, 1<<63-1, 0, 1)
	other := s.full(o.Kind)
	if o.Kind == api.OpCommit && s.IntN(2) == 0 {
		o.Changes = append(s.changes(), s.spoilChange(s.change()))
		return o
	}
	switch s.IntN(14) {
	case 0:
		o.Kind = pick(s, 0, -1, 15, 1<<63-1, -1<<63, 1+s.IntN(14))
	case 1:
		o.A = odd
	case 2:
		o.K = odd
	case 3:
		o.At = odd
	case 4:
		o.X = odd
	case 5:
		o.Link = odd
	case 6:
		o.Data = other.Data
	case 7:
		o.Stamp = pick(s, other.Stamp, api.Stamp{Sec: -1}, api.Stamp{Nano: -1}, api.Stamp{Nano: 1000000000})
	case 8:
		o.Params.Block = odd
	case 9:
		o.Params.Width = odd
	case 10:
		o.Changes = append(s.changes(), s.spoilChange(s.change()))
	case 11:
		o.Faults = append(s.faults(), api.Fault{At: odd, Kind: pick(s, 0, 1, 2, 3, -1)})
	case 12:
		o.Keep = other.Keep
	case 13:
		return other
	}
	return o
}

func (s sampler) spoilChange(c api.Change) api.Change {
	odd := pick(s, -1, maxNumber+1, -1<<63, 1<<63-1, 0, 1)
	switch s.IntN(5) {
	case 0:
		c.Kind = pick(s, 0, -1, 6, 1<<63-1, -1<<63, 1+s.IntN(5))
	case 1:
		c.Link = odd
	case 2:
		c.Side = odd
	case 3:
		c.Key = s.bytes()
	case 4:
		c.Prefix = pick(s, s.prefix(), api.Prefix{}, api.Prefix{Bits: 1}, api.Prefix{Addr: api.Addr{Family: 5}}, api.Prefix{Addr: api.Addr{Family: 4, Lo: 1}}, api.Prefix{Addr: api.Addr{Lo: 1}}, api.Prefix{Addr: api.Addr{Hi: 1}})
	}
	return c
}

// noise is a line that says nothing.
func (s sampler) noise() string {
	comment := bytes.ReplaceAll(append([]byte("#"), s.bytes()...), []byte("\n"), nil)
	return pick(s, "", " ", "\t", " \t \t", "#", "# culvert 1", string(comment), s.blanks(0)+string(comment))
}

// blanks are so many at least.
func (s sampler) blanks(n int) string {
	out := ""
	for range n + pick(s, 0, 0, 1, s.IntN(4)) {
		out += pick(s, " ", "\t")
	}
	return out
}

// capital turns the letters of what may be hex into capital ones, or some of them.
func (s sampler) capital(word string) string {
	if s.IntN(3) == 0 {
		return strings.ToUpper(word)
	}
	return strings.Map(func(r rune) rune {
		if 'a' <= r && r <= 'f' && s.IntN(2) == 0 {
			return r - 'a' + 'A'
		}
		return r
	}, word)
}

// noisy is the same script by another text: blanks, comments, lines without words, capital digits. Of a text that Print would write.
func (s sampler) noisy(text string) string {
	var lines []string
	for _, line := range strings.Split(strings.TrimSuffix(text, "\n"), "\n") {
		for range pick(s, 0, 0, 1, 2) {
			lines = append(lines, s.noise())
		}
		lines = append(lines, s.noisyLine(line))
	}
	for range pick(s, 0, 0, 1, 2) {
		lines = append(lines, s.noise())
	}
	return strings.Join(lines, "\n") + pick(s, "", "\n")
}

func (s sampler) noisyLine(line string) string {
	out := s.blanks(0)
	words := strings.Split(line, " ")
	for i, word := range words {
		isKey := i > 1 && (words[i-2] == "add" || words[i-2] == "setkey")
		isData := i == 2 && (words[0] == "send" || words[0] == "junk")
		if isKey || isData {
			word = s.capital(word)
		}
		if i > 0 {
			out += s.blanks(1)
		}
		out += word
	}
	out += s.blanks(0)
	if s.IntN(3) == 0 {
		out += strings.ReplaceAll("#"+string(s.bytes()), "\n", "")
	}
	return out
}

// spoilText changes a text at one place, so that most have a fault, but not all.
func (s sampler) spoilText(text string) string {
	words := strings.Split(text, " ")
	at := s.IntN(len(words))
	switch s.IntN(6) {
	case 0:
		words = append(words[:at], words[at+1:]...)
	case 1:
		words[at] = s.word()
	case 2:
		words[at] += " " + s.word()
	case 3:
		words[at] += "\n" + s.word()
	case 4:
		b := []byte(text)
		b[s.IntN(len(b))] = byte(s.Uint32())
		return string(b)
	case 5:
		i := s.IntN(len(text))
		return text[:i] + text[i+1:]
	}
	return strings.Join(words, " ")
}

func (s sampler) word() string {
	return pick(s,
		"culvert", pick(s, stepRows...).name, pick(s, changeRows...).name, ",", "-", "power", "io", "0", "1", "00", "-1", "+1", "1.0", "é", "#", "x",
		fmt.Sprint(s.number()), fmt.Sprint(maxNumber+s.IntN(3)), fmt.Sprintf("%x", s.bytes()), eightText, zeros6Text, "10.0.0.1/8", "1.000000000", "0110", "2", "abc", "AB",
	)
}
