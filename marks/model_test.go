package marks_test

import (
	"fmt"
	"math/big"
	"regexp"
	"slices"
	"strings"
	"testing"
	"unicode/utf8"

	"colophon/api"
	"colophon/marks"
)

// The chapter's words once more, in another way: tags, attributes and pieces of a
// text are forms, and a list of tokens may be printed if what is written of it is
// taken as that list.

const most = 1 << 20

const (
	control = `\x00-\x08\x0b\x0c\x0e-\x1f\x7f-\x{9f}`
	name    = `([a-z][a-z0-9-]{0,15})`
	blank   = `[\x09\x0a\x0d\x20]`
	attr    = blank + `+` + name + blank + `*=` + blank + `*"([^<"]*)"`
)

var (
	openForm  = regexp.MustCompile(`\A<` + name + `((?:` + attr + `)*)` + blank + `*(/?)>`)
	closeForm = regexp.MustCompile(`\A</` + name + blank + `*>`)
	attrForm  = regexp.MustCompile(attr)
	escaper   = strings.NewReplacer("<", "&lt;", ">", "&gt;", "&", "&amp;", "\"", "&quot;")
	pieceForm = regexp.MustCompile(`\A(?:([^<&` + control + `]+)|&(lt|gt|amp|quot);|&#([1-9][0-9]*);)`)
)

// modelPoint is the character of a number, if it may be in a text.
func modelPoint(digits string) (string, bool) {
	n, ok := new(big.Int).SetString(digits[:min(len(digits), 100)], 10)
	if !ok || n.Cmp(big.NewInt(0x10ffff)) > 0 {
		return "", false
	}
	c := n.Int64()
	control := c < 32 && c != 9 && c != 10 && c != 13 || c >= 127 && c <= 159
	return string(rune(c)), !control && (c < 0xd800 || c > 0xdfff)
}

// modelPlain is what a text or a value says, and how much of it is well.
func modelPlain(s string) (string, int) {
	said, at := "", 0
	var all strings.Builder
	for at < len(s) {
		m := pieceForm.FindStringSubmatch(s[at:])
		if m == nil {
			break
		}
		well := true
		switch {
		case m[1] != "":
			said = m[1]
		case m[2] != "":
			said = map[string]string{"lt": "<", "gt": ">", "amp": "&", "quot": "\""}[m[2]]
		default:
			said, well = modelPoint(m[3])
		}
		if !well {
			break
		}
		all.WriteString(said)
		at += len(m[0])
	}
	return all.String(), at
}

// modelTag is the tag with which a text begins, and its bytes, if it is well.
func modelTag(s string) (api.Token, string, bool) {
	if m := closeForm.FindStringSubmatch(s); m != nil {
		return api.Token{Kind: api.TokClose, Name: m[1]}, m[0], true
	}
	m := openForm.FindStringSubmatch(s)
	if m == nil {
		return api.Token{}, "", false
	}
	t := api.Token{Kind: api.TokOpen, Name: m[1]}
	if m[5] == "/" {
		t.Kind = api.TokEmpty
	}
	names := map[string]bool{}
	for _, a := range attrForm.FindAllStringSubmatch(m[2], -1) {
		value, at := modelPlain(a[2])
		if at < len(a[2]) {
			return api.Token{}, "", false
		}
		names[a[1]] = true
		t.Attrs = append(t.Attrs, api.Attr{Name: a[1], Value: value})
	}
	return t, m[0], len(names) == len(t.Attrs) && len(names) <= 16
}

// modelTokens is Scan without a bound.
func modelTokens(s string) ([]api.Token, int, api.Errno) {
	for at := 0; at < len(s); {
		r, size := utf8.DecodeRuneInString(s[at:])
		if r == utf8.RuneError && size < 3 {
			return nil, at, api.ErrUtf
		}
		at += size
	}
	var l []api.Token
	for at := 0; at < len(s); {
		t, size := api.Token{Kind: api.TokText}, 0
		if s[at] == '<' {
			tag, all, ok := modelTag(s[at:])
			if !ok {
				return nil, at, api.ErrToken
			}
			t, size = tag, len(all)
		} else {
			t.Text, size = modelPlain(s[at:])
			if at+size < len(s) && s[at+size] != '<' {
				return nil, at + size, api.ErrToken
			}
		}
		t.At = at
		l = append(l, t)
		at += size
	}
	return l, 0, api.OK
}

func modelScan(s string) ([]api.Token, int, api.Errno) {
	if len(s) > most {
		return nil, 0, api.ErrLong
	}
	return modelTokens(s)
}

func modelEscape(s string) string { return escaper.Replace(s) }

// modelWrite writes whatever tokens say.
func modelWrite(l []api.Token) string {
	var s strings.Builder
	for _, t := range l {
		var attrs string
		for _, a := range t.Attrs {
			attrs += fmt.Sprintf(` %s="%s"`, a.Name, modelEscape(a.Value))
		}
		switch t.Kind {
		case api.TokOpen:
			s.WriteString("<" + t.Name + attrs + ">")
		case api.TokEmpty:
			s.WriteString("<" + t.Name + attrs + "/>")
		case api.TokClose:
			s.WriteString("</" + t.Name + ">")
		case api.TokText:
			s.WriteString(modelEscape(t.Text))
		}
	}
	return s.String()
}

func modelPrint(l []api.Token) (string, api.Errno) {
	s := modelWrite(l)
	if back, _, err := modelTokens(s); err != api.OK || !alike(back, l) {
		return "", api.ErrToken
	}
	if len(s) > most {
		return "", api.ErrLong
	}
	return s, api.OK
}

// equal holds tokens against each other, with their places.
func equal(a, b []api.Token) bool {
	return slices.EqualFunc(a, b, func(a, b api.Token) bool {
		return a.Kind == b.Kind && a.Name == b.Name && a.Text == b.Text && a.At == b.At && slices.Equal(a.Attrs, b.Attrs)
	})
}

// alike holds tokens against each other, but for their places.
func alike(a, b []api.Token) bool { return equal(placeless(a), placeless(b)) }

func placeless(l []api.Token) []api.Token {
	l = slices.Clone(l)
	for i := range l {
		l[i].At = 0
	}
	return l
}

// numbers are such as by chance, the same for the same seed.
func numbers(seed int) func(below int) int {
	x := uint64(seed)*2862933555777941757 + 3037000493
	return func(below int) int {
		x = x*6364136223846793005 + 1442695040888963407
		return int(x >> 33 % uint64(below))
	}
}

// tell is a thing, or the beginning of a long one.
func tell(x any) string {
	s := fmt.Sprintf("%+v", x)
	if text, ok := x.(string); ok {
		s = fmt.Sprintf("%q", text[:min(len(text), 300)])
	}
	return s[:min(len(s), 400)]
}

// as fails, unless Scan answers what the model does.
func as(t *testing.T, what, s string) api.Errno {
	t.Helper()
	l, at, err := marks.Scan(s)
	want, place, asked := modelScan(s)
	if !equal(l, want) || at != place || err != asked {
		t.Errorf("%s: Scan(%s) is %s, %d, %v; asked: %s, %d, %v", what, tell(s), tell(l), at, err, tell(want), place, asked)
	}
	return err
}

// shows fails, unless these are the tokens of a text.
func shows(t *testing.T, s string, want ...api.Token) {
	t.Helper()
	if l, at, err := marks.Scan(s); !equal(l, want) || at != 0 || err != api.OK {
		t.Errorf("Scan(%s) is %s, %d, %v; asked: %s", tell(s), tell(l), at, err, tell(want))
	}
	as(t, "the model", s)
}

// refused fails, unless a text has that fault first.
func refused(t *testing.T, what, s string, place int) {
	t.Helper()
	wrong(t, what, s, place, api.ErrToken)
}

func wrong(t *testing.T, what, s string, place int, asked api.Errno) {
	t.Helper()
	if l, at, err := marks.Scan(s); len(l) != 0 || at != place || err != asked {
		t.Errorf("%s: Scan(%s) is %s, %d, %v; asked: %d, %v", what, tell(s), tell(l), at, err, place, asked)
	}
	as(t, "the model", s)
}

// prints fails, unless Print answers what the model does.
func prints(t *testing.T, what string, l []api.Token) api.Errno {
	t.Helper()
	s, err := marks.Print(l)
	if want, asked := modelPrint(l); s != want || err != asked {
		t.Errorf("%s: Print(%s) is %s, %v; asked: %s, %v", what, tell(l), tell(s), err, tell(want), asked)
	}
	return err
}

// writes fails, unless that is what is printed of tokens.
func writes(t *testing.T, want string, l ...api.Token) {
	t.Helper()
	if s, err := marks.Print(l); s != want || err != api.OK {
		t.Errorf("Print(%s) is %s, %v; asked: %s", tell(l), tell(s), err, tell(want))
	}
	prints(t, "the model", l)
}

// none fails, unless a list is none of tokens.
func none(t *testing.T, what string, l ...api.Token) {
	t.Helper()
	unwritten(t, what, api.ErrToken, l...)
}

func unwritten(t *testing.T, what string, asked api.Errno, l ...api.Token) {
	t.Helper()
	if s, err := marks.Print(l); s != "" || err != asked {
		t.Errorf("%s: Print(%s) is %s, %v; asked: %v", what, tell(l), tell(s), err, asked)
	}
	prints(t, "the model", l)
}

func text(s string) api.Token { return api.Token{Kind: api.TokText, Text: s} }

func closing(name string) api.Token { return api.Token{Kind: api.TokClose, Name: name} }

// open and empty take names and values in turn.
func open(name string, attrs ...string) api.Token {
	return api.Token{Kind: api.TokOpen, Name: name, Attrs: given(attrs)}
}

func empty(name string, attrs ...string) api.Token {
	return api.Token{Kind: api.TokEmpty, Name: name, Attrs: given(attrs)}
}

func given(l []string) []api.Attr {
	var attrs []api.Attr
	for i := 0; i < len(l); i += 2 {
		attrs = append(attrs, api.Attr{Name: l[i], Value: l[i+1]})
	}
	return attrs
}

func at(place int, t api.Token) api.Token { t.At = place; return t }
