package script

import (
	"iter"
	"strconv"
	"strings"

	"culvert/api"
)

// lines gives the lines of a text with their numbers. Behind the last newline there is one more, which may be empty.
func lines(text string) iter.Seq2[int, string] {
	return func(yield func(int, string) bool) {
		line, rest, more := strings.Cut(text, "\n")
		for no := 1; yield(no, line) && more; no++ {
			line, rest, more = strings.Cut(rest, "\n")
		}
	}
}

// listed are the words of a line.
func listed(line string) ([]string, api.Errno) {
	said, e := uncommented(line)
	if e != api.OK {
		return nil, e
	}
	var words []string
	for word := range eachWord(said) {
		words = append(words, word)
	}
	return words, api.OK
}

// uncommented is the part of a line that says something, if it is words and blanks.
func uncommented(line string) (string, api.Errno) {
	for at, sign := range line {
		if sign == '#' {
			return line[:at], api.OK
		}
		// Bytes that are no character's come as one beyond these, as all beyond 7E do.
		if !isBlank(sign) && (sign < '!' || '~' < sign) {
			return "", api.ErrScriptText
		}
	}
	return line, api.OK
}

func isBlank(sign rune) bool { return sign == ' ' || sign == '\t' }

// eachWord gives what stands between the blanks of a line.
func eachWord(said string) iter.Seq[string] {
	return func(yield func(string) bool) {
		begin := 0 // of the word that goes on, or would begin here
		for at, sign := range said {
			if !isBlank(sign) {
				continue
			}
			if begin < at && !yield(said[begin:at]) {
				return
			}
			begin = at + 1
		}
		if begin < len(said) {
			yield(said[begin:])
		}
	}
}

func readNumber(word string) (int, api.Errno) {
	number, err := strconv.ParseUint(word, 10, 32)
	// Held against its one text: there may be zeros ahead.
	if err != nil || strconv.FormatUint(number, 10) != word {
		return 0, api.ErrNumber
	}
	return int(number), api.OK
}

func readHex(word string) ([]byte, api.Errno) {
	switch {
	case word == none:
		return nil, api.OK
	case len(word)%2 != 0:
		return nil, api.ErrHex
	}
	out := make([]byte, len(word)/2)
	for i := range out {
		pair, err := strconv.ParseUint(word[2*i:2*i+2], 16, 8)
		if err != nil {
			return nil, api.ErrHex
		}
		out[i] = byte(pair)
	}
	return out, api.OK
}

func readBits(word string) ([]bool, api.Errno) {
	if word == none {
		return nil, api.OK
	}
	out := make([]bool, len(word))
	for at, sign := range word {
		if sign != '0' && sign != '1' {
			return nil, api.ErrNumber
		}
		out[at] = sign == '1'
	}
	return out, api.OK
}
