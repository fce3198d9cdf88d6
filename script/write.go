package script

import (
	"strconv"

	"culvert/api"
	"culvert/prefix"
	"culvert/stamp"
)

const digits = "0123456789abcdef"

// page is a text while it is written: all of it, or its beginning, one byte too long. (So no more is kept than can be answered, whatever is written.)
type page struct{ text []byte }

func (p *page) room() int { return api.MaxScript + 1 - len(p.text) }

func (p *page) add(text string) {
	p.text = append(p.text, text[:min(len(text), p.room())]...)
}

// whole is the text, unless it is too long.
func (p *page) whole() (string, api.Errno) {
	if len(p.text) > api.MaxScript {
		return "", api.ErrMany
	}
	return string(p.text), api.OK
}

// word adds one more word of a line.
func (p *page) word(text string) { p.add(" " + text) }

func (p *page) number(n int) api.Errno {
	if n < 0 || n > greatest {
		return api.ErrNumber
	}
	p.word(strconv.Itoa(n))
	return api.OK
}

func (p *page) hex(b []byte) {
	if len(b) == 0 {
		p.word(none)
		return
	}
	// Each makes at least one byte: those beyond the room would not be kept.
	b = b[:min(len(b), p.room())]
	out := make([]byte, 0, 2*len(b))
	for _, one := range b {
		out = append(out, digits[one>>4], digits[one&15])
	}
	p.word(string(out))
}

func (p *page) bits(keep []bool) {
	if len(keep) == 0 {
		p.word(none)
		return
	}
	keep = keep[:min(len(keep), p.room())]
	out := make([]byte, 0, len(keep))
	for _, one := range keep {
		if one {
			out = append(out, '1')
		} else {
			out = append(out, '0')
		}
	}
	p.word(string(out))
}

// step writes a step's line.
func (p *page) step(o api.Op) api.Errno {
	if o.Kind < 1 || o.Kind >= len(steps) {
		return api.ErrWord
	}
	f := steps[o.Kind]
	if stepSpare(o, f.letters) {
		return api.ErrSpare
	}
	p.add(f.name)
	for _, letter := range f.letters {
		if e := p.stepField(o, letter); e != api.OK {
			return e
		}
	}
	p.add("\n")
	return api.OK
}

func (p *page) stepField(o api.Op, letter rune) api.Errno {
	switch letter {
	case 'H':
		p.hex(o.Data)
	case 'S':
		return p.stamp(o.Stamp)
	case 'B':
		p.bits(o.Keep)
	case 'F':
		return p.faults(o.Faults)
	case 'C':
		return p.changes(o.Changes)
	default:
		return p.number(*stepNumber(&o, letter))
	}
	return api.OK
}

func (p *page) stamp(s api.Stamp) api.Errno {
	if !stamp.Valid(s) {
		return api.ErrStampForm
	}
	p.word(stamp.Print(s))
	return api.OK
}

func (p *page) faults(l []api.Fault) api.Errno {
	for _, f := range l {
		if f.Kind < 1 || f.Kind >= len(faults) {
			return api.ErrWord
		}
		p.word(faults[f.Kind])
		if e := p.number(f.At); e != api.OK {
			return e
		}
	}
	return api.OK
}

func (p *page) changes(l []api.Change) api.Errno {
	text, e := PrintChanges(l)
	if text != "" {
		p.word(text)
	}
	return e
}

// change writes a change's words.
func (p *page) change(c api.Change) api.Errno {
	if c.Kind < 1 || c.Kind >= len(changes) {
		return api.ErrWord
	}
	f := changes[c.Kind]
	if changeSpare(c, f.letters) {
		return api.ErrSpare
	}
	p.add(f.name)
	for _, letter := range f.letters {
		if e := p.changeField(c, letter); e != api.OK {
			return e
		}
	}
	return api.OK
}

func (p *page) changeField(c api.Change, letter rune) api.Errno {
	switch letter {
	case 'K':
		p.hex(c.Key)
		return api.OK
	case 'P':
		return p.prefix(c.Prefix)
	}
	return p.number(*changeNumber(&c, letter))
}

func (p *page) prefix(x api.Prefix) api.Errno {
	if !prefix.Valid(x) {
		return api.ErrPrefixForm
	}
	p.word(prefix.Print(x))
	return api.OK
}
