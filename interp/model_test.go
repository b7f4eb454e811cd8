package interp_test

import (
	"fmt"
	"math/big"
	"regexp"
	"slices"
	"strconv"
	"strings"
	"testing"

	"colophon/api"
	"colophon/emit"
	"colophon/interp"
)

// The chapter's words once more, in another way: operators with their operands
// are phrases, and these are taken by a grammar. A rectangle is re and then f, n
// or W and n, a text is all from BT to ET, and what stands between q and Q is
// content in content.

const (
	top = 1 << 40
	one = 1 << 16
)

func box(x0, y0, x1, y1 int) api.Rect { return api.Rect{X0: x0, Y0: y0, X1: x1, Y1: y1} }

// text, rule and clip take points.
func text(font, size, x, y int, glyphs ...int) api.Mark {
	return api.Mark{Kind: api.MarkText, Font: font, Size: size * one, X: x * one, Y: y * one, Glyphs: glyphs}
}

func rule(x0, y0, x1, y1 int) api.Mark {
	return api.Mark{Kind: api.MarkRule, Box: box(x0*one, y0*one, x1*one, y1*one)}
}

func clip(x0, y0, x1, y1 int) api.Mark {
	return api.Mark{Kind: api.MarkClip, Box: box(x0*one, y0*one, x1*one, y1*one)}
}

func end() api.Mark { return api.Mark{Kind: api.MarkEnd} }

func list(l ...api.Mark) []api.Mark { return l }

// phrase is an operator and what stands ahead of it: the kinds of its operands
// (n a number, f a font, g glyphs), and these.
type phrase struct {
	name   string
	kinds  string
	n      []int
	font   int
	glyphs []int
}

var (
	blanks     = regexp.MustCompile(`[\x09\x0a\x0c\x0d\x20]+`)
	numberForm = regexp.MustCompile(`\A-?(0|[1-9][0-9]{0,7})(\.[0-9]{0,15}[1-9])?\z`)
	fontForm   = regexp.MustCompile(`\A/F([0-9]|[1-9][0-9])\z`)
	glyphForm  = regexp.MustCompile(`\A<([0-9A-Fa-f]{4})+>\z`)
)

// modelKinds is how many operands each operator has, and of which kinds.
func modelKinds() map[string]string {
	return map[string]string{
		"q": "", "Q": "", "cm": "nnnnnn", "re": "nnnn", "f": "", "W": "", "n": "",
		"BT": "", "ET": "", "Tf": "fn", "Tm": "nnnnnn", "Td": "nn", "Tj": "g",
	}
}

// modelNumber takes a decimal truly.
func modelNumber(word string) (int, bool) {
	if !numberForm.MatchString(word) || word == "-0" {
		return 0, false
	}
	x, ok := new(big.Rat).SetString(word)
	if !ok {
		return 0, false
	}
	x.Mul(x, big.NewRat(one, 1))
	return int(x.Num().Int64()), x.IsInt() && modelIn(int(x.Num().Int64()))
}

func modelIn(l ...int) bool {
	for _, x := range l {
		if x < -top || x > top {
			return false
		}
	}
	return true
}

// operand puts a word into a phrase, if it is an operand.
func (p *phrase) operand(word string) bool {
	if x, ok := modelNumber(word); ok {
		p.kinds += "n"
		p.n = append(p.n, x)
		return true
	}
	if found := fontForm.FindStringSubmatch(word); found != nil {
		p.kinds += "f"
		p.font, _ = strconv.Atoi(found[1])
		return true
	}
	if !glyphForm.MatchString(word) {
		return false
	}
	p.kinds += "g"
	p.glyphs = nil
	for four := range slices.Chunk([]byte(strings.ToLower(word[1:len(word)-1])), 4) {
		g := 0
		for _, c := range four {
			g = 16*g + strings.IndexByte("0123456789abcdef", c)
		}
		p.glyphs = append(p.glyphs, g)
	}
	return true
}

func phrases(s string) ([]phrase, bool) {
	var all []phrase
	var p phrase
	operators := modelKinds()
	for _, word := range blanks.Split(s, -1) {
		if word == "" { // ahead of the first blank, or behind the last one
			continue
		}
		if kinds, ok := operators[word]; ok {
			if kinds != p.kinds {
				return nil, false
			}
			p.name = word
			all = append(all, p)
			p = phrase{}
		} else if len(p.kinds) == 6 || !p.operand(word) {
			return nil, false
		}
	}
	return all, p.kinds == ""
}

// model is what is still to be taken, and what was made of all ahead of it.
type model struct {
	rest []phrase
	made []api.Mark
}

// next takes the phrase that stands there.
func (m *model) next() (phrase, bool) {
	if len(m.rest) == 0 {
		return phrase{}, false
	}
	p := m.rest[0]
	m.rest = m.rest[1:]
	return p, true
}

// moved tells where a matrix moves to, if it is one that only moves.
func moved(p phrase) (x, y int, ok bool) {
	return p.n[4], p.n[5], fmt.Sprint(p.n[:4]) == "[65536 0 0 65536]"
}

// content takes what stands at one depth, from one place and one font on, up to
// its Q or to the end, and tells whether it may stand.
func (m *model) content(x, y, font, size, deep int) bool {
	clips := 0
	for len(m.rest) > 0 && m.rest[0].name != "Q" {
		p, ok := m.next()
		switch p.name {
		case "q":
			ok = deep < 32 && m.content(x, y, font, size, deep+1)
			if ok {
				_, ok = m.next()
			}
		case "cm":
			var dx, dy int
			dx, dy, ok = moved(p)
			x, y = x+dx, y+dy
			ok = ok && modelIn(x, y)
		case "Tf":
			font, size = p.font, p.n[0]
			ok = size > 0
		case "BT":
			ok = m.text(x, y, &font, &size)
		case "re":
			ok = m.rectangle(x, y, p.n, &clips)
		default:
			ok = false
		}
		if !ok {
			return false
		}
	}
	m.made = append(m.made, slices.Repeat(list(end()), clips)...)
	return deep > 0 || clips == 0
}

// rectangle takes what stands behind re.
func (m *model) rectangle(x, y int, n []int, clips *int) bool {
	right, above := n[0]+n[2], n[1]+n[3]
	r := box(min(n[0], right)+x, min(n[1], above)+y, max(n[0], right)+x, max(n[1], above)+y)
	if !modelIn(right, above, r.X0, r.Y0, r.X1, r.Y1, r.X1-r.X0, r.Y1-r.Y0) {
		return false
	}
	switch p, _ := m.next(); p.name {
	case "f":
		m.made = append(m.made, api.Mark{Kind: 2, Box: r})
		return true
	case "W":
		p, _ = m.next()
		m.made = append(m.made, api.Mark{Kind: 3, Box: r})
		*clips++
		return p.name == "n"
	default:
		return p.name == "n"
	}
}

// text takes what stands behind BT.
func (m *model) text(x, y int, font, size *int) bool {
	lx, ly, there := 0, 0, true
	for {
		p, ok := m.next()
		switch p.name {
		case "ET":
			return true
		case "Tf":
			*font, *size = p.font, p.n[0]
			ok = *size > 0
		case "Tm":
			lx, ly, ok = moved(p)
			there = true
		case "Td":
			lx, ly, there = lx+p.n[0], ly+p.n[1], true
			ok = modelIn(lx, ly)
		case "Tj":
			ok = there && *size > 0 && modelIn(x+lx, y+ly)
			m.made = append(m.made, api.Mark{Kind: 1, Font: *font, Size: *size, X: x + lx, Y: y + ly, Glyphs: p.glyphs})
			there = false
		default:
			ok = false
		}
		if !ok {
			return false
		}
	}
}

// deepest is how many clips are open at a time.
func deepest(l []api.Mark) int {
	open, most := 0, 0
	for _, m := range l {
		open += map[int]int{3: 1, 4: -1}[m.Kind]
		most = max(most, open)
	}
	return most
}

// modelRun tells the marks, or the error.
func modelRun(s string) ([]api.Mark, api.Errno) {
	if len(s) > 1048576 {
		return nil, api.ErrLong
	}
	all, ok := phrases(s)
	m := model{rest: all}
	if !ok || !m.content(0, 0, 0, 0, 0) || len(m.rest) > 0 || len(m.made) > 8192 || deepest(m.made) > 32 {
		return nil, api.ErrContent
	}
	return m.made, api.OK
}

// tell is how something is shown: its beginning.
func tell(x any) string {
	s := fmt.Sprintf("%+v", x)
	if text, ok := x.(string); ok {
		s = fmt.Sprintf("%d bytes %q", len(text), text[:min(len(text), 200)])
	}
	return s[:min(len(s), 400)]
}

// as fails, unless a stream is read, or refused, as this test's own way does.
func as(t *testing.T, what, s string) api.Errno {
	t.Helper()
	want, err := modelRun(s)
	if l, got := interp.Run(s); !emit.Same(l, want) || got != err {
		t.Errorf("%s: Run(%s) is %s, %v; asked: %s, %v", what, tell(s), tell(l), got, tell(want), err)
	}
	return err
}

// reads fails, unless a stream is read, whatever its marks are.
func reads(t *testing.T, what, s string) {
	t.Helper()
	if err := as(t, what, s); err != api.OK {
		t.Errorf("%s: this test's own way does not read %s: %v", what, tell(s), err)
	}
}

// shows fails, unless a stream is read as these marks.
func shows(t *testing.T, s string, want ...api.Mark) {
	t.Helper()
	if l, err := interp.Run(s); !emit.Same(l, want) || err != api.OK {
		t.Errorf("Run(%s) is %s, %v; asked: %s", tell(s), tell(l), err, tell(want))
	}
	reads(t, "the test's own way", s)
}

// refused fails, unless a stream is not read, and no marks are told.
func refused(t *testing.T, what, s string) {
	t.Helper()
	if l, err := interp.Run(s); len(l) != 0 || err != api.ErrContent {
		t.Errorf("%s: Run(%s) is %s, %v", what, tell(s), tell(l), err)
	}
	if err := as(t, what, s); err != api.ErrContent {
		t.Errorf("%s: this test's own way reads %s: %v", what, tell(s), err)
	}
}

// may fails, unless a stream is read or refused, as is said.
func may(t *testing.T, what, s string, well bool) {
	t.Helper()
	if well {
		reads(t, what, s)
	} else {
		refused(t, what, s)
	}
}

// number is the text of a length, made by division.
func number(x int) string {
	s := big.NewRat(int64(x), one).FloatString(16)
	return strings.TrimSuffix(strings.TrimRight(s, "0"), ".")
}

// numbers are as if by chance, and hang on the seed alone.
func numbers(seed int) func(below int) int {
	x := uint64(seed)*2654435761 + 1
	return func(below int) int {
		x = x*6364136223846793005 + 1442695040888963407
		return int(x>>33) % below
	}
}
