package script

import (
	"iter"
	"slices"

	"culvert/api"
	"culvert/prefix"
	"culvert/stamp"
)

// reader is a script as far as it has been read.
type reader struct {
	script api.Script
	begun  bool // a line with words has been read
}

func (r *reader) line(line string) api.Errno {
	words, e := listed(line)
	switch {
	case e != api.OK:
		return e
	case len(words) == 0:
		return api.OK
	case !r.begun:
		return r.begin(words)
	}
	return r.step(words)
}

func (r *reader) begin(words []string) (e api.Errno) {
	r.begun = true
	r.script.Sectors, e = readFirst(words)
	return e
}

func (r *reader) step(words []string) api.Errno {
	if len(r.script.Ops) >= api.MaxSteps {
		return api.ErrMany
	}
	o, e := readStep(words)
	if e != api.OK {
		return e
	}
	r.script.Ops = append(r.script.Ops, o)
	return api.OK
}

func readFirst(words []string) (int, api.Errno) {
	switch {
	case words[0] != first:
		return 0, api.ErrScript
	case len(words) != 2:
		return 0, api.ErrWords
	}
	return readNumber(words[1])
}

func readStep(words []string) (api.Op, api.Errno) {
	o := api.Op{Kind: stepNamed(words[0])}
	if o.Kind == 0 {
		return api.Op{}, api.ErrWord
	}
	letters, words := steps[o.Kind].letters, words[1:]
	if !fits(letters, len(words)) {
		return api.Op{}, api.ErrWords
	}
	for i, letter := range letters {
		if e := fillStep(&o, letter, words[i:]); e != api.OK {
			return api.Op{}, e
		}
	}
	return o, api.OK
}

// stepNamed is the kind of the step of a name, or 0.
func stepNamed(name string) int {
	for kind, f := range steps {
		if f.name == name {
			return kind
		}
	}
	return 0
}

// fits tells whether so many words may stand for the letters of a step.
func fits(letters string, many int) bool {
	single := len(letters) - 1
	switch letters[single] {
	case 'C':
		return many >= single
	case 'F':
		return many >= single && (many-single)%2 == 0
	}
	return many == len(letters)
}

// fillStep fills a letter's field with what the first of the words says, or all of them, if the letter is one of many.
func fillStep(o *api.Op, letter rune, words []string) (e api.Errno) {
	switch letter {
	case 'H':
		o.Data, e = readHex(words[0])
	case 'S':
		o.Stamp, e = stamp.Parse(words[0])
	case 'B':
		o.Keep, e = readBits(words[0])
	case 'F':
		o.Faults, e = readFaults(words)
	case 'C':
		o.Changes, e = readChanges(words)
	default:
		*stepNumber(o, letter), e = readNumber(words[0])
	}
	return e
}

// readFaults reads pairs of words.
func readFaults(words []string) ([]api.Fault, api.Errno) {
	var list []api.Fault
	for pair := range slices.Chunk(words, 2) {
		kind := faultNamed(pair[0])
		if kind == 0 {
			return nil, api.ErrWord
		}
		at, e := readNumber(pair[1])
		if e != api.OK {
			return nil, e
		}
		list = append(list, api.Fault{At: at, Kind: kind})
	}
	return list, api.OK
}

// faultNamed is the kind of the fault of a name, or 0.
func faultNamed(name string) int {
	for kind, one := range faults {
		if one == name {
			return kind
		}
	}
	return 0
}

func readChanges(words []string) ([]api.Change, api.Errno) {
	if len(words) == 0 {
		return nil, api.OK
	}
	var list []api.Change
	for part := range eachPart(words) {
		c, e := readChange(part)
		if e != api.OK {
			return nil, e
		}
		list = append(list, c)
	}
	return list, api.OK
}

// eachPart gives the words ahead of, between and behind the commas.
func eachPart(words []string) iter.Seq[[]string] {
	return func(yield func([]string) bool) {
		rest := words
		at := slices.Index(rest, comma)
		for at >= 0 && yield(rest[:at]) {
			rest = rest[at+1:]
			at = slices.Index(rest, comma)
		}
		if at < 0 {
			yield(rest)
		}
	}
}

func readChange(words []string) (api.Change, api.Errno) {
	if len(words) == 0 {
		return api.Change{}, api.ErrWord
	}
	c := api.Change{Kind: changeNamed(words[0])}
	if c.Kind == 0 {
		return api.Change{}, api.ErrWord
	}
	letters, words := changes[c.Kind].letters, words[1:]
	if len(words) != len(letters) {
		return api.Change{}, api.ErrWords
	}
	for i, letter := range letters {
		if e := fillChange(&c, letter, words[i]); e != api.OK {
			return api.Change{}, e
		}
	}
	return c, api.OK
}

// changeNamed is the kind of the change of a name, or 0.
func changeNamed(name string) int {
	for kind, f := range changes {
		if f.name == name {
			return kind
		}
	}
	return 0
}

// fillChange fills a letter's field with what a word says.
func fillChange(c *api.Change, letter rune, word string) (e api.Errno) {
	switch letter {
	case 'K':
		c.Key, e = readHex(word)
	case 'P':
		c.Prefix, e = prefix.Parse(word)
	default:
		*changeNumber(c, letter), e = readNumber(word)
	}
	return e
}
