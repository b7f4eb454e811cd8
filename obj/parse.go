package obj

import (
	"strconv"
	"strings"

	"colophon/api"
	"colophon/digits"
)

// Parse reads an object from a place on.
func Parse(s string, at int) (o api.Obj, end int, err api.Errno) {
	if len(s) > api.MaxFile {
		return api.Obj{}, 0, api.ErrLong
	}
	if at < 0 || at > len(s) {
		return api.Obj{}, 0, api.ErrArg
	}
	defer func() {
		if recover() != nil {
			o, end, err = api.Obj{}, 0, api.ErrObj
		}
	}()
	r := reader{s: s, at: at, left: api.MaxCount}
	o = r.object(1)
	return o, r.at, api.OK
}

// reader stands at a place of a text. It gives up by a panic, which Parse
// catches, so that none of its methods has a fault to hand on.
type reader struct {
	s    string
	at   int
	left int // how many objects more the whole may be made of
}

// must gives up, unless all is well.
func must(well bool) {
	if !well {
		panic(api.ErrObj)
	}
}

// object reads one that stands so deep, blanks ahead of it passed over. That
// it goes too deep, or is made of too many, is seen on the way in: what a long
// text makes of memory and of calls in one another has a bound.
func (r *reader) object(deep int) api.Obj {
	r.left--
	must(r.left >= 0)
	r.passBlanks()
	var o api.Obj
	switch {
	case r.take("<<"):
		o = r.dict(deep)
	case r.take("["):
		o = r.array(deep)
	case r.take("<"):
		o = api.Obj{Kind: api.KString, Text: r.hexText()}
	case r.take("("):
		o = api.Obj{Kind: api.KString, Text: r.plainText()}
	case r.take("/"):
		o = api.Obj{Kind: api.KName, Text: r.name()}
	default:
		o = r.word()
	}
	must(fits(o))
	return o
}

func (r *reader) array(deep int) api.Obj {
	must(deep <= api.MaxNest)
	o := api.Obj{Kind: api.KArray}
	for r.passBlanks(); !r.take("]"); r.passBlanks() {
		o.Items = append(o.Items, r.object(deep+1))
	}
	return o
}

func (r *reader) dict(deep int) api.Obj {
	must(deep <= api.MaxNest)
	o := api.Obj{Kind: api.KDict}
	for r.passBlanks(); !r.take(">>"); r.passBlanks() {
		must(r.take("/"))
		o.Keys = append(o.Keys, r.name())
		o.Items = append(o.Items, r.object(deep+1))
	}
	return o
}

// name reads a name's bytes, behind the / of it.
func (r *reader) name() string {
	var text []byte
	for !r.atEnd() {
		c := r.nextByte()
		if c == '#' {
			c = r.coded(2, 16)
		} else {
			must(isPlain(c))
		}
		text = append(text, c)
	}
	return string(text)
}

// hexText reads a string's bytes, behind the < of it.
func (r *reader) hexText() string {
	var text []byte
	for !r.take(">") {
		text = append(text, r.coded(2, 16))
	}
	return string(text)
}

// plainText reads a string's bytes, behind the ( of it.
func (r *reader) plainText() string {
	var text []byte
	for open := 1; ; {
		c := r.nextByte()
		switch c {
		case '(':
			open++
		case ')':
			open--
			if open == 0 {
				return string(text)
			}
		case '\\':
			c = r.escaped()
		}
		text = append(text, c)
	}
}

// escaped reads what stands for a byte behind a \.
func (r *reader) escaped() byte {
	c := r.nextByte()
	switch c {
	case 'n':
		return '\n'
	case 'r':
		return '\r'
	case 't':
		return '\t'
	case 'b':
		return '\b'
	case 'f':
		return '\f'
	case '(', ')', '\\':
		return c
	}
	r.at-- // it is the first of the digits
	return r.coded(3, 8)
}

// coded reads a byte that is said by so many digits.
func (r *reader) coded(width, base int) byte {
	must(len(r.s)-r.at >= width)
	c, err := strconv.ParseUint(r.s[r.at:r.at+width], base, 8)
	must(err == nil)
	r.at += width
	return byte(c)
}

// word reads an object that is a word, or, of a reference, begins with one.
func (r *reader) word() api.Obj {
	from := r.at
	for !r.atEnd() {
		r.at++
	}
	word := r.s[from:r.at]
	switch word {
	case "null":
		return api.Obj{Kind: api.KNull}
	case "true", "false":
		return api.Obj{Kind: api.KBool, Flag: word == "true"}
	}
	// A number has one text: what is written in any other way comes back as
	// another one.
	if x, err := strconv.Atoi(word); err == nil && strconv.Itoa(x) == word {
		if r.takeRefEnd() {
			return api.Obj{Kind: api.KRef, Num: x}
		}
		return api.Obj{Kind: api.KInt, Num: x}
	}
	x, ok := digits.Parse(word)
	must(ok)
	return api.Obj{Kind: api.KReal, Num: x}
}

// takeRefEnd passes over what makes a reference of the integer ahead of it, if
// that stands here. There must be blanks ahead of each of the two words, and
// there are: a word goes up to a blank, or to what begins no word.
func (r *reader) takeRefEnd() bool {
	here := r.at
	r.passBlanks()
	if r.takeWord("0") {
		r.passBlanks()
		if r.takeWord("R") {
			return true
		}
	}
	r.at = here
	return false
}

// takeWord passes over a word; if it is only how a longer one begins, the
// place is of no use any more.
func (r *reader) takeWord(word string) bool {
	return r.take(word) && r.atEnd()
}

// take passes over what is given, if it stands here.
func (r *reader) take(what string) bool {
	if !strings.HasPrefix(r.s[r.at:], what) {
		return false
	}
	r.at += len(what)
	return true
}

func (r *reader) passBlanks() {
	for r.at < len(r.s) && isBlank(r.s[r.at]) {
		r.at++
	}
}

// atEnd tells whether a word or a name that came up to here ends here.
func (r *reader) atEnd() bool {
	return r.at == len(r.s) || isBlank(r.s[r.at]) || isDelimiter(r.s[r.at])
}

func (r *reader) nextByte() byte {
	must(r.at < len(r.s))
	c := r.s[r.at]
	r.at++
	return c
}
