package script

import (
	"strings"

	"culvert/api"
)

// stepNumber is where a step has the number of a small letter.
func stepNumber(o *api.Op, letter rune) *int {
	switch letter {
	case 'a':
		return &o.A
	case 'k':
		return &o.K
	case 't':
		return &o.At
	case 'x':
		return &o.X
	case 'l':
		return &o.Link
	case 'b':
		return &o.Params.Block
	}
	return &o.Params.Width
}

// changeNumber is where a change has the number of a small letter.
func changeNumber(c *api.Change, letter rune) *int {
	if letter == 'l' {
		return &c.Link
	}
	return &c.Side
}

// stepSpare tells whether a step has something in a field that its letters do not name.
func stepSpare(o api.Op, letters string) bool {
	for _, letter := range stepLetters {
		if !strings.ContainsRune(letters, letter) && stepHas(o, letter) {
			return true
		}
	}
	return false
}

func stepHas(o api.Op, letter rune) bool {
	switch letter {
	case 'H':
		return len(o.Data) > 0
	case 'S':
		return o.Stamp != api.Stamp{}
	case 'B':
		return len(o.Keep) > 0
	case 'F':
		return len(o.Faults) > 0
	case 'C':
		return len(o.Changes) > 0
	}
	return *stepNumber(&o, letter) != 0
}

// changeSpare tells whether a change has something in a field that its letters do not name.
func changeSpare(c api.Change, letters string) bool {
	for _, letter := range changeLetters {
		if !strings.ContainsRune(letters, letter) && changeHas(c, letter) {
			return true
		}
	}
	return false
}

func changeHas(c api.Change, letter rune) bool {
	switch letter {
	case 'K':
		return len(c.Key) > 0
	case 'P':
		return c.Prefix != api.Prefix{}
	}
	return *changeNumber(&c, letter) != 0
}
