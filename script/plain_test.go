package script_test

import (
	"encoding/hex"
	"fmt"
	"math/big"
	"reflect"
	"regexp"
	"strconv"
	"strings"

	"culvert/api"
	"culvert/prefix"
	"culvert/stamp"
)

// The chapter's words by other means: its tables as text, fields by their names, patterns for the words, whole numbers without a bound.

const chapterSteps = `
1 commit A:number Changes:changes
2 send A:number Data:hex
3 rekey A:number Link:number
4 tick A:number Stamp:stamp
5 give K:number
6 drop K:number
7 copy K:number
8 flip K:number At:number X:number
9 junk A:number Data:hex
10 arm A:number Faults:faults
11 crash A:number Keep:bits
12 boot A:number Params.Block:number Params.Width:number
13 look A:number
14 run K:number`

const chapterChanges = `
1 add Link:number Key:hex Side:number
2 remove Link:number
3 setkey Link:number Key:hex Side:number
4 allow Link:number Prefix:prefix
5 deny Link:number Prefix:prefix`

type field struct{ path, what string }

type row struct {
	kind   int
	name   string
	fields []field
}

func rowsOf(table string) []row {
	var out []row
	for _, line := range strings.Split(strings.TrimSpace(table), "\n") {
		parts := strings.Fields(line)
		kind, _ := strconv.Atoi(parts[0])
		r := row{kind: kind, name: parts[1]}
		for _, part := range parts[2:] {
			path, what, _ := strings.Cut(part, ":")
			r.fields = append(r.fields, field{path, what})
		}
		out = append(out, r)
	}
	return out
}

var (
	stepRows   = rowsOf(chapterSteps)
	changeRows = rowsOf(chapterChanges)

	saidPattern   = regexp.MustCompile(`^[\t !-~]*$`)
	numberPattern = regexp.MustCompile(`^(0|[1-9][0-9]*)$`)
	hexPattern    = regexp.MustCompile(`^(-|([0-9a-fA-F][0-9a-fA-F])+)$`)
	bitsPattern   = regexp.MustCompile(`^(-|[01]+)$`)
)

func rowNamed(rows []row, name string) (row, bool) {
	for _, r := range rows {
		if r.name == name {
			return r, true
		}
	}
	return row{}, false
}

func rowOfKind(rows []row, kind int) (row, bool) {
	for _, r := range rows {
		if r.kind == kind {
			return r, true
		}
	}
	return row{}, false
}

func (r row) has(path string) bool {
	for _, f := range r.fields {
		if f.path == path || strings.HasPrefix(f.path, path+".") {
			return true
		}
	}
	return false
}

func at(x reflect.Value, path string) reflect.Value {
	for _, name := range strings.Split(path, ".") {
		x = x.FieldByName(name)
	}
	return x
}

func plainWords(line string) ([]string, bool) {
	said, _, _ := strings.Cut(line, "#")
	isBlank := func(r rune) bool { return r == ' ' || r == '\t' }
	return strings.FieldsFunc(said, isBlank), saidPattern.MatchString(said)
}

func plainIsNumber(n int) bool { return n >= 0 && n <= maxNumber }

// plainValue is what a word says, as the field's own type.
func plainValue(what, word string) (any, api.Errno) {
	switch what {
	case "number":
		n, ok := new(big.Int).SetString(word, 10)
		if !numberPattern.MatchString(word) || !ok || n.Cmp(big.NewInt(maxNumber)) > 0 {
			return 0, 223
		}
		return int(n.Int64()), 0
	case "hex":
		if !hexPattern.MatchString(word) {
			return []byte{}, 225
		}
		b, _ := hex.DecodeString(strings.Trim(word, "-"))
		return b, 0
	case "bits":
		if !bitsPattern.MatchString(word) {
			return []bool{}, 223
		}
		var keep []bool
		for _, c := range strings.Trim(word, "-") {
			keep = append(keep, c == '1')
		}
		return keep, 0
	case "stamp":
		return asAny(stamp.Parse(word))
	case "prefix":
		return asAny(prefix.Parse(word))
	}
	panic(what)
}

// asAny lets a value of any type and its error be assigned.
func asAny[T any](x T, e api.Errno) (any, api.Errno) { return x, e }

func plainFaults(words []string) ([]api.Fault, api.Errno) {
	var out []api.Fault
	for i := 0; i < len(words); i += 2 {
		kind := map[string]int{"power": 1, "io": 2}[words[i]]
		if kind == 0 {
			return nil, 222
		}
		n, e := plainValue("number", words[i+1])
		if e != 0 {
			return nil, e
		}
		out = append(out, api.Fault{At: n.(int), Kind: kind})
	}
	return out, 0
}

func plainChange(words []string) (api.Change, api.Errno) {
	var c api.Change
	if len(words) == 0 {
		return c, 222
	}
	r, ok := rowNamed(changeRows, words[0])
	if !ok {
		return c, 222
	}
	if len(words) != 1+len(r.fields) {
		return c, 226
	}
	c.Kind = r.kind
	for i, f := range r.fields {
		x, e := plainValue(f.what, words[1+i])
		if e != 0 {
			return c, e
		}
		at(reflect.ValueOf(&c).Elem(), f.path).Set(reflect.ValueOf(x))
	}
	return c, 0
}

// plainChanges puts the words in one text and parts it again: no word has a blank in it.
func plainChanges(words []string) ([]api.Change, api.Errno) {
	if len(words) == 0 {
		return nil, 0
	}
	var out []api.Change
	for _, part := range strings.Split(" "+strings.Join(words, "  ")+" ", " , ") {
		c, e := plainChange(strings.Fields(part))
		if e != 0 {
			return nil, e
		}
		out = append(out, c)
	}
	return out, 0
}

func plainStep(words []string) (api.Op, api.Errno) {
	r, ok := rowNamed(stepRows, words[0])
	if !ok {
		return api.Op{}, 222
	}
	n := len(words) - 1
	switch r.name {
	case "commit":
		ok = n >= 1
	case "arm":
		ok = n >= 1 && n%2 == 1
	default:
		ok = n == len(r.fields)
	}
	if !ok {
		return api.Op{}, 226
	}
	o := api.Op{Kind: r.kind}
	for i, f := range r.fields {
		var x any
		var e api.Errno
		switch f.what {
		case "faults":
			x, e = asAny(plainFaults(words[1+i:]))
		case "changes":
			x, e = asAny(plainChanges(words[1+i:]))
		default:
			x, e = plainValue(f.what, words[1+i])
		}
		if e != 0 {
			return api.Op{}, e
		}
		at(reflect.ValueOf(&o).Elem(), f.path).Set(reflect.ValueOf(x))
	}
	return o, 0
}

func plainParse(text string) (api.Script, int, api.Errno) {
	var s api.Script
	if len(text) > maxScript {
		return s, 0, 221
	}
	begun := false
	for i, line := range strings.Split(text, "\n") {
		words, ok := plainWords(line)
		var e api.Errno
		switch {
		case !ok:
			e = 224
		case len(words) == 0:
		case !begun && words[0] != "culvert":
			e = 227
		case !begun && len(words) != 2:
			e = 226
		case !begun:
			var x any
			x, e = plainValue("number", words[1])
			s.Sectors, begun = x.(int), true
		case len(s.Ops) == maxSteps:
			e = 221
		default:
			var o api.Op
			o, e = plainStep(words)
			s.Ops = append(s.Ops, o)
		}
		if e != 0 {
			return api.Script{}, i + 1, e
		}
	}
	if !begun {
		return api.Script{}, 0, 227
	}
	return s, 0, 0
}

func plainParseChanges(text string) ([]api.Change, api.Errno) {
	words, ok := plainWords(text)
	switch {
	case len(text) > maxScript:
		return nil, 221
	case !ok || strings.Contains(text, "\n"):
		return nil, 224
	}
	return plainChanges(words)
}

// plainSpare tells whether a field that is not in the row says something.
func plainSpare(x reflect.Value, r row) bool {
	for i := range x.NumField() {
		name, v := x.Type().Field(i).Name, x.Field(i)
		if name == "Kind" || r.has(name) {
			continue
		}
		if v.Kind() == reflect.Slice && v.Len() > 0 || v.Kind() != reflect.Slice && !v.IsZero() {
			return true
		}
	}
	return false
}

// plainWord is a value as a word.
func plainWord(what string, x any) string {
	switch what {
	case "number":
		return fmt.Sprint(x)
	case "hex":
		if len(x.([]byte)) == 0 {
			return "-"
		}
		return fmt.Sprintf("%x", x)
	case "bits":
		if len(x.([]bool)) == 0 {
			return "-"
		}
		return strings.NewReplacer("false", "0", "true", "1", " ", "", "[", "", "]", "").Replace(fmt.Sprint(x))
	case "stamp":
		return stamp.Print(x.(api.Stamp))
	case "prefix":
		return prefix.Print(x.(api.Prefix))
	case "faults":
		var words []string
		for _, f := range x.([]api.Fault) {
			words = append(words, []string{"power", "io"}[f.Kind-1], fmt.Sprint(f.At))
		}
		return strings.Join(words, " ")
	case "changes":
		text, _ := plainPrintChanges(x.([]api.Change))
		return text
	}
	panic(what)
}

// plainFieldFault is what is wrong with a value by itself.
func plainFieldFault(what string, x any) api.Errno {
	switch what {
	case "number":
		if !plainIsNumber(x.(int)) {
			return 223
		}
	case "stamp":
		if stamp.Print(x.(api.Stamp)) == "" {
			return 60
		}
	case "prefix":
		if prefix.Print(x.(api.Prefix)) == "" {
			return 70
		}
	case "faults":
		for _, f := range x.([]api.Fault) {
			if f.Kind != 1 && f.Kind != 2 {
				return 222
			}
			if !plainIsNumber(f.At) {
				return 223
			}
		}
	case "changes":
		_, e := plainPrintChanges(x.([]api.Change))
		return e
	}
	return 0
}

// plainPrintRow is a step or a change, its words with a space between.
func plainPrintRow(rows []row, kind int, x reflect.Value) (string, api.Errno) {
	r, ok := rowOfKind(rows, kind)
	if !ok {
		return "", 222
	}
	if plainSpare(x, r) {
		return "", 228
	}
	for _, numbers := range []bool{true, false} { // all numbers are asked ahead of all else
		for _, f := range r.fields {
			if e := plainFieldFault(f.what, at(x, f.path).Interface()); (f.what == "number") == numbers && e != 0 {
				return "", e
			}
		}
	}
	words := []string{r.name}
	for _, f := range r.fields {
		if word := plainWord(f.what, at(x, f.path).Interface()); word != "" {
			words = append(words, word)
		}
	}
	return strings.Join(words, " "), 0
}

func plainPrint(s api.Script) (string, api.Errno) {
	switch {
	case !plainIsNumber(s.Sectors):
		return "", 223
	case len(s.Ops) > maxSteps:
		return "", 221
	}
	var out strings.Builder
	fmt.Fprintf(&out, "culvert %d\n", s.Sectors)
	for _, o := range s.Ops {
		line, e := plainPrintRow(stepRows, o.Kind, reflect.ValueOf(o))
		if e != 0 {
			return "", e
		}
		out.WriteString(line + "\n")
	}
	if out.Len() > maxScript {
		return "", 221
	}
	return out.String(), 0
}

func plainPrintChanges(l []api.Change) (string, api.Errno) {
	var out []string
	for _, c := range l {
		text, e := plainPrintRow(changeRows, c.Kind, reflect.ValueOf(c))
		if e != 0 {
			return "", e
		}
		out = append(out, text)
	}
	text := strings.Join(out, " , ")
	if len(text) > maxScript {
		return "", 221
	}
	return text, 0
}
