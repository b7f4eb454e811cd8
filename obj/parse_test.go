package obj

import (
	"encoding/hex"
	"math/big"
	"regexp"
	"strconv"
	"strings"
	"testing"

	"colophon/api"
)

// A second reader, without a call in itself: it goes through the pieces of a
// text from the left, and keeps what is open on a stack. It knows no bounds of
// depth and count; texts that come near them have tests of their own.

const (
	blanks     = "\t\n\f\r "
	delimiters = "()<>[]{}/%"
)

var (
	wholeWord = regexp.MustCompile(`\A(0|-?[1-9][0-9]*)\z`)
	realWord  = regexp.MustCompile(`\A-?(0|[1-9][0-9]*)\.[0-9]*[1-9]\z`)
	refEnd    = regexp.MustCompile(`\A[\t\n\f\r ]+0[\t\n\f\r ]+R(\z|[\t\n\f\r ()<>\[\]{}/%])`)
	hexPiece  = regexp.MustCompile(`\A<(([0-9A-Fa-f]{2})*)>`)
	nameByte  = regexp.MustCompile(`\A([!"$&'*+,.0-9:;=?@A-Z\\^_\x60a-z|~-]|#[0-9A-Fa-f]{2})`)
	textByte  = regexp.MustCompile(`\A(\\[nrtbf()\\]|\\[0-3][0-7]{2}|[^\\])`)
)

type open struct {
	o       api.Obj
	waiting bool // a dictionary that has a key without a value
}

func plainParse(s string, at int) (api.Obj, int, bool) {
	var stack []open
	for {
		for at < len(s) && strings.IndexByte(blanks, s[at]) >= 0 {
			at++
		}
		rest := s[at:]
		top := len(stack) - 1
		wantsKey := top >= 0 && stack[top].o.Kind == api.KDict && !stack[top].waiting
		var value api.Obj
		switch {
		case strings.HasPrefix(rest, "<<") && !wantsKey:
			stack = append(stack, open{o: api.Obj{Kind: api.KDict}})
			at += 2
			continue
		case strings.HasPrefix(rest, "[") && !wantsKey:
			stack = append(stack, open{o: api.Obj{Kind: api.KArray}})
			at++
			continue
		case strings.HasPrefix(rest, ">>") && wantsKey, strings.HasPrefix(rest, "]") && top >= 0 && stack[top].o.Kind == api.KArray:
			value = stack[top].o
			stack = stack[:top]
			at++
			if rest[0] == '>' {
				at++
			}
			if twice(value.Keys) {
				return zero, 0, false
			}
		default:
			o, size, ok := plainSingle(rest)
			if !ok || wantsKey && o.Kind != api.KName {
				return zero, 0, false
			}
			at += size
			if wantsKey {
				stack[top].o.Keys = append(stack[top].o.Keys, o.Text)
				stack[top].waiting = true
				continue
			}
			value = o
		}
		if len(stack) == 0 {
			return value, at, true
		}
		top = len(stack) - 1
		stack[top].o.Items = append(stack[top].o.Items, value)
		stack[top].waiting = false
	}
}

func twice(keys []string) bool {
	seen := map[string]bool{}
	for _, key := range keys {
		if seen[key] {
			return true
		}
		seen[key] = true
	}
	return false
}

// plainSingle reads an object that nests nothing, and how long its text is.
func plainSingle(s string) (api.Obj, int, bool) {
	if s == "" {
		return zero, 0, false
	}
	switch s[0] {
	case '<':
		m := hexPiece.FindStringSubmatch(s)
		if m == nil {
			return zero, 0, false
		}
		b, _ := hex.DecodeString(m[1])
		return text(string(b)), len(m[0]), len(b) <= 65536
	case '(':
		return plainString(s)
	case '/':
		return plainName(s)
	}
	word := s
	if i := strings.IndexAny(s, blanks+delimiters); i >= 0 {
		word = s[:i]
	}
	o, ok := plainWord(word)
	if ok && o.Kind == api.KInt {
		if m := refEnd.FindStringSubmatch(s[len(word):]); m != nil {
			return ref(o.Num), len(word) + len(m[0]) - len(m[1]), o.Num >= 1 && o.Num <= 4096
		}
	}
	return o, len(word), ok
}

func plainWord(word string) (api.Obj, bool) {
	switch {
	case word == "null":
		return zero, true
	case word == "true", word == "false":
		return boolean(word == "true"), true
	case wholeWord.MatchString(word):
		x, _ := new(big.Int).SetString(word, 10)
		return integer(int(x.Int64())), x.CmpAbs(big.NewInt(1<<40)) <= 0
	case realWord.MatchString(word):
		x, _ := new(big.Rat).SetString(word)
		x.Mul(x, big.NewRat(65536, 1))
		return decimal(int(x.Num().Int64())), x.IsInt() && x.Num().CmpAbs(big.NewInt(1<<40)) <= 0
	}
	return zero, false
}

func plainName(s string) (api.Obj, int, bool) {
	var b []byte
	at := 1
	for {
		m := nameByte.FindString(s[at:])
		if m == "" {
			break
		}
		c := m[0]
		if c == '#' {
			x, _ := strconv.ParseInt(m[1:], 16, 64)
			c = byte(x)
		}
		b = append(b, c)
		at += len(m)
	}
	ended := at == len(s) || strings.IndexByte(blanks+delimiters, s[at]) >= 0
	return name(string(b)), at, ended && len(b) >= 1 && len(b) <= 127 && !strings.Contains(string(b), "\x00")
}

func plainString(s string) (api.Obj, int, bool) {
	said := map[byte]byte{'n': 10, 'r': 13, 't': 9, 'b': 8, 'f': 12, '(': '(', ')': ')', '\\': '\\'}
	var b []byte
	level := 0
	for at := 0; ; {
		m := textByte.FindString(s[at:])
		if m == "" {
			return zero, 0, false
		}
		at += len(m)
		switch {
		case len(m) == 4 && m[0] == '\\':
			x, _ := strconv.ParseInt(m[1:], 8, 64)
			b = append(b, byte(x))
		case m[0] == '\\':
			b = append(b, said[m[1]])
		default:
			b = append(b, m...)
			level += strings.Count(m, "(") - strings.Count(m, ")")
		}
		if level == 0 {
			return text(string(b[1 : len(b)-1])), at, len(b)-2 <= 65536
		}
	}
}

// reads holds Parse to what is asked, with zeros if that is a fault.
func reads(t *testing.T, s string, at int, want api.Obj, end int, fault api.Errno) {
	t.Helper()
	got, gotEnd, err := Parse(s, at)
	if !alike(got, want) || gotEnd != end || err != fault {
		t.Errorf("Parse(%.80q, %d): %v, %d, %v; asked: %v, %d, %v", s, at, short(got), gotEnd, err, short(want), end, fault)
	}
}

// readsAsPlain holds Parse to the second reader.
func readsAsPlain(t *testing.T, s string, at int) {
	t.Helper()
	if want, end, ok := plainParse(s, at); ok {
		reads(t, s, at, want, end, api.OK)
	} else {
		reads(t, s, at, zero, 0, api.ErrObj)
	}
}

func refuses(t *testing.T, s string) {
	t.Helper()
	reads(t, s, 0, zero, 0, api.ErrObj)
}

// P5.3

func TestParse(t *testing.T) {
	for _, x := range []struct {
		s    string
		at   int
		want api.Obj
		end  int
	}{
		{"null", 0, zero, 4}, {"true]", 0, boolean(true), 4}, {"false/a", 0, boolean(false), 5},
		{"0", 0, integer(0), 1}, {"-12 ", 0, integer(-12), 3}, {"1099511627776", 0, integer(1 << 40), 13}, {"-1099511627776", 0, integer(-1 << 40), 14},
		{"0.5]", 0, decimal(32768), 3}, {"-0.5", 0, decimal(-32768), 4}, {"16777215.9999847412109375", 0, decimal(1<<40 - 1), 25}, {"-16777215.9999847412109375", 0, decimal(1 - 1<<40), 26},
		{" [ 12 0 R]", 0, array(ref(12)), 10}, {"12 0 Rx", 0, integer(12), 2}, {"x/a#2Fb", 1, name("a/b"), 7}, {"1 2", 1, integer(2), 3}, {"1 2", 2, integer(2), 3},
		{"(a(b)\\051)", 0, text("a(b))"), 10}, {"()", 0, text(""), 2}, {"<>", 0, text(""), 2}, {"<6aF0>", 0, text("j\xf0"), 6},
		{"[]", 0, array(), 2}, {"<<>>", 0, dict(), 4}, {"[1 2 0 R 3]", 0, array(integer(1), ref(2), integer(3)), 11},
		{"[true(a)null]", 0, array(boolean(true), text("a"), zero), 13}, {"[/a/b<00>/c(d)]", 0, array(name("a"), name("b"), text("\x00"), name("c"), text("d")), 15},
		{"<</A/B/C<</D 1>>>>", 0, dict(pair("A", name("B")), pair("C", dict(pair("D", integer(1))))), 18}, {"<</A<>>>", 0, dict(pair("A", text(""))), 8},
		{"<</a#20b 1 /B null>>", 0, dict(pair("a b", integer(1)), pair("B", zero)), 20},
		{"[[][]]]", 0, array(array(), array()), 6}, {"1%", 0, integer(1), 1}, {"1{", 0, integer(1), 1}, {"/a}", 0, name("a"), 2},
	} {
		reads(t, x.s, x.at, x.want, x.end, api.OK)
	}
	for _, x := range prints() {
		reads(t, x.want, 0, x.o, len(x.want), api.OK)
	}
}

func TestParseRefuses(t *testing.T) {
	for _, s := range []string{
		"", " ", "\t\n\f\r ", "]", ">", ">>", ")", "}", "{", "{}", "%", "% a\n1", "R", "nul", "nullx", "nulll", "Null", "NULL", "truefalse", "true1", "x", "\x00", "\x000", "\xa01",
		"+1", "-", "--1", "-0", "00", "007", "-07", "1x", "1-", "1_0", "0x1", "1e5", "1099511627777", "-1099511627777", "9223372036854775808", "99999999999999999999", strings.Repeat("9", 1000),
		"1.", ".5", "-.5", "1.50", "1.0", "0.0", "-0.0", "01.5", "-01.5", "+1.5", "0.1", "1.5.5", "0.00000762939453125", "16777216.5", "-16777216.5", "1.5e1", "0." + strings.Repeat("0", 50) + "1", "1..5", "1,5",
		"0 0 R", "-1 0 R", "4097 0 R", "1099511627776 0 R", "99999999999999999999 0 R", "[0 0 R]", "[1 0 0 R]", "<</A -5 0 R>>", "01 0 R",
		"/", "/ a", "//a", "[/]", "/#", "/a#", "/a#2", "/a#2 0", "/a#2g", "/a#g2", "/a##", "/a#00", "/#00", "/a\x00b", "/a\x7f", "/a\x80", "/a\xff", "/a\x0b", "/a#+1", "/a#-1", "/a# 1", "/a#_1", "/a#0x41",
		"(", "(a", "(a(b)", "((", "(\\)", "(\\", "(a\\)", "(\\9)", "(\\8)", "(\\1)", "(\\12)", "(\\128)", "(\\400)", "(\\777)", "(\\a)", "(\\\n)", "(\\ )", "(\\+12)", "(\\x41)", "(\\N)", "(\\0", "(\\00",
		"<", "<a", "<a>", "<abc>", "<6 1>", "< 61>", "<61 >", "<6g>", "<g6>", "<+1>", "<0x>", "<_1>", "<61", "<6161", "<\n>",
		"[", "[1", "[1 ", "[1>", "[1)", "[1}", "[(a]", "[[]", "[1 2 x]", "[1 +2]", "[1%]", "[1,2]", "[>>]", "[truefalse]", "[1-2]", "[/a\x80]",
		"<<", "<</A", "<</A>>", "<</A ", "<</A 1", "<</A 1>", "<</A 1> >", "< </A 1>>", "<</A 1]", "<<A 1>>", "<<1 1>>", "<<1>>", "<<(A) 1>>", "<<null 1>>", "<</ 1>>", "<</A 1/B>>", "<</A 1 2>>", "<</A 1 (B) 2>>", "<<[] 1>>", "<<<</A 1>>>>", "<<>", "<<]>>",
		"<</A 1/A 2>>", "<</A 1/#41 2>>", "<</A 1/B 2/C 3/B 4>>", "[<</A 1/A 1>>]", "<</#00 1>>",
	} {
		refuses(t, s)
		refuses(t, " \n"+s)
	}
}

func TestParseArguments(t *testing.T) {
	for _, at := range []int{-1, 4, 5, 1 << 24, 1 << 62, least, most} {
		reads(t, "1 2", at, zero, 0, api.ErrArg)
	}
	reads(t, "1 2", 3, zero, 0, api.ErrObj)
	reads(t, "", 0, zero, 0, api.ErrObj)
	reads(t, "", 1, zero, 0, api.ErrArg)
	reads(t, "", -1, zero, 0, api.ErrArg)
	full := strings.Repeat(" ", api.MaxFile-1) + "7"
	reads(t, full, 0, integer(7), api.MaxFile, api.OK)
	reads(t, full, api.MaxFile, zero, 0, api.ErrObj)
	reads(t, full, api.MaxFile+1, zero, 0, api.ErrArg)
	reads(t, full+" ", 0, zero, 0, api.ErrLong)
	reads(t, full+" ", -1, zero, 0, api.ErrLong)
	reads(t, full+" ", most, zero, 0, api.ErrLong)
}

func TestParseAtTheLongest(t *testing.T) {
	for _, size := range []int{api.MaxBytes - 1, api.MaxBytes, api.MaxBytes + 1} {
		o := long(size)
		s := "[(" + strings.Repeat(strings.Repeat("a", 65536)+") (", 15) + o.Items[15].Text + ")]"
		if len(s) != size {
			t.Fatal("the test's own text has", len(s))
		}
		reads(t, s, 0, o, size, api.OK)
	}
}

func TestParseOfEachByteInAName(t *testing.T) {
	for c := range 256 {
		one := string([]byte{byte(c)})
		readsAsPlain(t, "/x"+one+"y", 0)
		readsAsPlain(t, "/"+one, 0)
		readsAsPlain(t, "<</x"+one+"y 1>>", 0)
		low, high := hex.EncodeToString([]byte(one)), strings.ToUpper(hex.EncodeToString([]byte(one)))
		for _, pair := range []string{low, high, low[:1] + high[1:], high[:1] + low[1:]} {
			if c == 0 {
				refuses(t, "/x#"+pair+"y")
				continue
			}
			reads(t, "/x#"+pair+"y", 0, name("x"+one+"y"), 6, api.OK)
		}
	}
	// Every pair of bytes behind a #.
	for i := range 1 << 16 {
		readsAsPlain(t, "/#"+string([]byte{byte(i >> 8), byte(i)}), 0)
	}
}

func TestParseOfEachByteInAString(t *testing.T) {
	for c := range 256 {
		one := string([]byte{byte(c)})
		if !strings.Contains("()\\", one) {
			reads(t, "(x"+one+"y)", 0, text("x"+one+"y"), 5, api.OK)
		}
		octal := strconv.FormatInt(int64(512+c), 8)[1:]
		reads(t, "(x\\"+octal+"y)", 0, text("x"+one+"y"), 8, api.OK)
		low := hex.EncodeToString([]byte(one))
		high := strings.ToUpper(low)
		for _, pair := range []string{low, high, low[:1] + high[1:], high[:1] + low[1:]} {
			reads(t, "<78"+pair+"79>", 0, text("x"+one+"y"), 8, api.OK)
		}
		readsAsPlain(t, "(\\"+one+")", 0)
		readsAsPlain(t, "(\\"+one+"))", 0)
		readsAsPlain(t, "(\\"+one+"01)", 0)
		readsAsPlain(t, "(\\0"+one+"1)", 0)
		readsAsPlain(t, "(\\01"+one+")", 0)
		readsAsPlain(t, "(a"+one, 0)
	}
	for i := range 1 << 16 {
		readsAsPlain(t, "<"+string([]byte{byte(i >> 8), byte(i)})+">", 0)
	}
	for i := range 1000 {
		readsAsPlain(t, "(\\"+strconv.Itoa(1000 + i)[1:]+")", 0)
	}
}

func TestParseOfBalancedBrackets(t *testing.T) {
	for _, x := range []struct{ s, want string }{
		{"(())", "()"}, {"(()())", "()()"}, {"((a)b(c(d)))", "(a)b(c(d))"}, {"(\\(())", "(()"}, {"(()\\))", "())"}, {"(\\)\\()", ")("}, {"(\\050)", "("},
		{"(<[{/%)", "<[{/%"}, {"(\n\r\t\x00\xff)", "\n\r\t\x00\xff"}, {"(a\r\nb)", "a\r\nb"}, {"(\\\\)", "\\"}, {"(\\0531)", "+1"},
	} {
		reads(t, x.s, 0, text(x.want), len(x.s), api.OK)
		reads(t, x.s+")", 0, text(x.want), len(x.s), api.OK)
		refuses(t, x.s[:len(x.s)-1])
		refuses(t, "("+x.s)
	}
	deep := strings.Repeat("(", 32768) + strings.Repeat(")", 32768)
	reads(t, "("+deep+")", 0, text(deep), 65538, api.OK)
	refuses(t, deep[:65535])
	refuses(t, strings.Repeat("(", api.MaxFile))
}

func TestParseAtTheLimits(t *testing.T) {
	a := strings.Repeat("a", 127)
	reads(t, "/"+a, 0, name(a), 128, api.OK)
	reads(t, "/"+strings.Repeat("#61", 127), 0, name(a), 382, api.OK)
	refuses(t, "/"+a+"a")
	refuses(t, "/"+strings.Repeat("#61", 128))
	reads(t, "<</"+a+" 1>>", 0, dict(pair(a, integer(1))), 134, api.OK)
	refuses(t, "<</"+a+"a 1>>")
	s := strings.Repeat("a", 65536)
	for _, x := range [][2]string{{"(" + s + ")", "(" + s + "a)"}, {"<" + strings.Repeat("61", 65536) + ">", "<" + strings.Repeat("61", 65537) + ">"}, {"(" + strings.Repeat("\\141", 65536) + ")", "(" + strings.Repeat("\\141", 65537) + ")"}} {
		reads(t, x[0], 0, text(s), len(x[0]), api.OK)
		refuses(t, x[1])
	}
	reads(t, "1 0 R", 0, ref(1), 5, api.OK)
	reads(t, "4096 0 R", 0, ref(4096), 8, api.OK)
}

func TestParseOfWhatIsDeep(t *testing.T) {
	reads(t, strings.Repeat("[", 32)+strings.Repeat("]", 32), 0, nested(32, api.KArray), 64, api.OK)
	refuses(t, strings.Repeat("[", 33)+strings.Repeat("]", 33))
	reads(t, strings.Repeat("<</a", 31)+"<<>>"+strings.Repeat(">>", 31), 0, nested(32, api.KDict), 4*32+2*31, api.OK)
	refuses(t, strings.Repeat("<</a", 32)+"<<>>"+strings.Repeat(">>", 32))
	mixed := strings.Repeat("[<</a", 16)
	reads(t, mixed+" 1"+strings.Repeat(">>]", 16), 0, func() api.Obj {
		o := integer(1)
		for range 16 {
			o = array(dict(pair("a", o)))
		}
		return o
	}(), 5*16+2+3*16, api.OK)
	refuses(t, mixed+"[]"+strings.Repeat(">>]", 16))
	refuses(t, mixed+"<<>>"+strings.Repeat(">>]", 16))
	// Those that stand beside one another are not in one another.
	wide := strings.Repeat("[", 31) + strings.Repeat("[]", 100) + strings.Repeat("]", 31)
	if _, end, err := Parse(wide, 0); end != len(wide) || err != api.OK {
		t.Error("many at the deepest:", end, err)
	}
	refuses(t, strings.Repeat("[", api.MaxFile))
	refuses(t, strings.Repeat("<</a", api.MaxFile/4))
}

func TestParseOfMany(t *testing.T) {
	many := func(n int) string { return "[" + strings.Repeat("null ", n) + "]" }
	reads(t, many(65535), 0, array(make([]api.Obj, 65535)...), 5*65535+2, api.OK)
	refuses(t, many(65536))
	refuses(t, "["+many(65535)+"]")
	reads(t, "["+many(65534)+"]", 0, array(array(make([]api.Obj, 65534)...)), 5*65534+4, api.OK)
	// References and keys: a reference is one object, a key is none.
	refs := array()
	for range 65535 {
		refs.Items = append(refs.Items, ref(9))
	}
	s := "[" + strings.Repeat("9 0 R ", 65535) + "]"
	reads(t, s, 0, refs, len(s), api.OK)
	d := counted(65535)
	var b strings.Builder
	b.WriteString("<<")
	for i, key := range d.Keys {
		b.WriteString("/" + key + " " + strconv.Itoa(i))
	}
	reads(t, b.String()+">>", 0, d, b.Len()+2, api.OK)
	refuses(t, b.String()+"/z 1>>")
	refuses(t, "["+b.String()+">>]")
	refuses(t, "["+strings.Repeat("0 ", api.MaxFile/2-1)+"]")
}

// pieces of texts with a blank wherever one may stand; a lower line marks the
// places where one must.
func blankTexts() []struct {
	pieces string
	want   api.Obj
} {
	return []struct {
		pieces string
		want   api.Obj
	}{
		{"|[|1_2|]", array(integer(1), integer(2))},
		{"|[|true_null|/a_1|(b)|/c|/d|<00>|7_0_R|[|]|<<|>>|]", array(boolean(true), zero, name("a"), integer(1), text("b"), name("c"), name("d"), text("\x00"), ref(7), array(), dict())},
		{"|<<|/a_1|/b|/c|/d|(e)|/f|<<|/g|[|1.5_-2|]|>>|>>", dict(pair("a", integer(1)), pair("b", name("c")), pair("d", text("e")), pair("f", dict(pair("g", array(decimal(98304), integer(-2))))))},
		{"|7_0_R", ref(7)}, {"|<<|/a_7_0_R|/b_8_0_R|>>", dict(pair("a", ref(7)), pair("b", ref(8)))},
		{"|null", zero}, {"|/a", name("a")}, {"|(a)", text("a")}, {"|<61>", text("a")}, {"|1", integer(1)},
	}
}

func TestParseOfBlanks(t *testing.T) {
	least := func(pieces string) string { return strings.NewReplacer("|", "", "_", " ").Replace(pieces) }
	for _, x := range blankTexts() {
		s := least(x.pieces)
		reads(t, s, 0, x.want, len(s), api.OK)
		for i := range len(x.pieces) {
			if x.pieces[i] != '|' && x.pieces[i] != '_' {
				continue
			}
			for _, blank := range []string{"\t", "\n", "\f", "\r", " ", "\t\n\f\r ", "\r\n", "  "} {
				s := least(x.pieces[:i]) + blank + least(x.pieces[i+1:])
				reads(t, s, 0, x.want, len(s), api.OK)
				reads(t, s+blank+"1", 0, x.want, len(s), api.OK)
			}
			for _, other := range []string{"\x00", "\x0b", "\x08", "\x1f", "\x7f", "\x85", "\xa0", "%", "%c\n", ",", "\\ "} {
				readsAsPlain(t, least(x.pieces[:i])+other+least(x.pieces[i+1:]), 0)
			}
			for _, other := range []string{"\x00", "\x0b", "\x7f", "\xa0", "%c\n"} {
				if i > 0 && x.pieces != "|7_0_R" {
					refuses(t, least(x.pieces[:i])+other+least(x.pieces[i+1:]))
				}
			}
			if x.pieces[i] == '_' {
				readsAsPlain(t, least(x.pieces[:i])+least(x.pieces[i+1:]), 0)
			}
		}
	}
	for _, s := range []string{"[1 2]", "[/a 1]", "[7 0 R]", "[true null]"} {
		if got, _, err := Parse(strings.Replace(s, " ", "", 1), 0); err == api.OK && len(got.Items) != 1 {
			t.Errorf("%q without its blank has %d items", s, len(got.Items))
		}
	}
}

func TestParseOfAWordsEnd(t *testing.T) {
	for _, x := range []struct {
		word string
		want api.Obj
	}{{"null", zero}, {"true", boolean(true)}, {"false", boolean(false)}, {"-12", integer(-12)}, {"0", integer(0)}, {"1.5", decimal(98304)}, {"/a", name("a")}, {"7 0 R", ref(7)}} {
		reads(t, x.word, 0, x.want, len(x.word), api.OK)
		for c := range 256 {
			s := x.word + string([]byte{byte(c)})
			if strings.IndexByte(blanks+delimiters, byte(c)) >= 0 {
				reads(t, s, 0, x.want, len(x.word), api.OK)
			} else {
				readsAsPlain(t, s, 0)
			}
		}
	}
}

func TestParseOfReferences(t *testing.T) {
	for _, x := range []struct {
		s   string
		o   api.Obj
		end int
	}{
		{"12 0 R", ref(12), 6}, {"12 0 R]", ref(12), 6}, {"12 0 R/a", ref(12), 6}, {"12\n0\t\f R]", ref(12), 8}, {"12\r\n0  R\n", ref(12), 8}, {"12 0 R(", ref(12), 6},
		{"12 0 Rx", integer(12), 2}, {"12 0 R0", integer(12), 2}, {"12 0 r", integer(12), 2}, {"12 0 RR", integer(12), 2}, {"12 0R", integer(12), 2}, {"12 0 obj", integer(12), 2},
		{"12 1 R", integer(12), 2}, {"12 00 R", integer(12), 2}, {"12 -0 R", integer(12), 2}, {"12 0. R", integer(12), 2}, {"12 0 0 R", integer(12), 2}, {"12 R", integer(12), 2}, {"12 0", integer(12), 2}, {"12 0 ", integer(12), 2}, {"12 ", integer(12), 2}, {"12", integer(12), 2},
		{"12 0/R", integer(12), 2}, {"12 0[R", integer(12), 2}, {"12/0 R", integer(12), 2}, {"12[0 R", integer(12), 2}, {"12(0 R", integer(12), 2}, {"12 (0) R", integer(12), 2}, {"12 0 /R", integer(12), 2}, {"12 0\x00R", integer(12), 2},
		{"0 0", integer(0), 1}, {"-5 0 X", integer(-5), 2}, {"5000 0 r", integer(5000), 4},
		{"1.5 0 R", decimal(98304), 3}, {"null 0 R", zero, 4}, {"/a 0 R", name("a"), 2},
	} {
		reads(t, x.s, 0, x.o, x.end, api.OK)
	}
	reads(t, "[1 2 0 R 0 0]", 0, array(integer(1), ref(2), integer(0), integer(0)), 13, api.OK)
	reads(t, "[1 1 0 R 0 R]", 0, zero, 0, api.ErrObj)
	reads(t, "<</A 3 0 R/B 0/C 1>>", 0, dict(pair("A", ref(3)), pair("B", integer(0)), pair("C", integer(1))), 20, api.OK)
	reads(t, "x1 0 R", 1, ref(1), 6, api.OK)
}

// texts goes through all texts of so many pieces at most.
func texts(pieces []string, count int, ask func(string)) {
	var walk func(s string, left int)
	walk = func(s string, left int) {
		ask(s)
		if left == 0 {
			return
		}
		for _, p := range pieces {
			walk(s+p, left-1)
		}
	}
	walk("", count)
}

func TestParseOfAllShortTexts(t *testing.T) {
	for _, x := range []struct {
		pieces []string
		count  int
	}{
		{[]string{"0", "1", "-", ".", "5", " ", "R", "[", "]", "<", ">", "(", ")", "/", "#", "\\", "n", "\x00"}, 4},
		{[]string{"0", "1", " ", "R", "]", "\n"}, 6},
		{[]string{"0", "1", "9", "-", ".", "5", "2", "+"}, 5},
		{[]string{"(", ")", "\\", "0", "5", "n", "8"}, 6},
		{[]string{"/", "#", "4", "a", "0", " ", "("}, 6},
		{[]string{"<<", ">>", "<", ">", "/a", "/b", "1", " ", "[", "]"}, 5},
		{[]string{"<</a", "[", "]", ">>", " 0", " R", " 7", "/b", "(c)", "true"}, 5},
	} {
		texts(x.pieces, x.count, func(s string) { readsAsPlain(t, s, 0) })
	}
}

func TestParseOfTurnedTexts(t *testing.T) {
	for _, s := range []string{
		"<</Type /Page /Kids [1 0 R 2 0 R] /N -1.5 /S (a\\(b\\051) /H <00fF> /D <</X true/Y null>>>>",
		" [ /A#20b#23 (x(y)z) <> 4096 0 R false 0 0 0.5 [ ] << >> ]",
	} {
		for i := range len(s) {
			readsAsPlain(t, s, i)
			readsAsPlain(t, s[:i], 0)
			readsAsPlain(t, s[:i]+s[i+1:], 0)
			for c := range 256 {
				readsAsPlain(t, s[:i]+string([]byte{byte(c)})+s[i+1:], 0)
				readsAsPlain(t, s[:i]+string([]byte{byte(c)})+s[i:], 0)
			}
		}
	}
}

// P5.4

func TestWhatIsPrintedIsRead(t *testing.T) {
	for _, o := range whole() {
		s, err := Print(o)
		if err != api.OK {
			t.Errorf("Print of %v: %v", short(o), err)
			continue
		}
		reads(t, s, 0, o, len(s), api.OK)
		reads(t, s+"]"+s, 0, o, len(s), api.OK)
		reads(t, "x "+s, 1, o, len(s)+2, api.OK)
	}
}

func TestWhatIsReadIsPrintedAsItself(t *testing.T) {
	texts([]string{"<</a", "[", "]", ">>", " 0 R", " 7", "/b#28", "(c\\n)", "<0f>", " 1.5"}, 5, func(s string) {
		o, end, err := Parse(s, 0)
		if err != api.OK {
			return
		}
		if !Good(o) {
			t.Errorf("what is read of %q is not good", s)
		}
		back, err := Print(o)
		if err != api.OK {
			t.Errorf("Print of what is read of %q: %v", s, err)
		}
		reads(t, back, 0, o, len(back), api.OK)
		if first, _, _ := Parse(s[:end], 0); !alike(first, o) {
			t.Errorf("%q without what stands behind it is another one", s)
		}
	})
}

// Rule 2

func TestParseAnswersNewMemory(t *testing.T) {
	const s = "<</a [1 2 [] <<>> [3 [4 5 6 7 8]]] /b <</c [] /d [[] []] /e 1 /f 2 /g 3>> /h (x)>>"
	one, _, _ := Parse(s, 0)
	two, _, _ := Parse(s, 0)
	apart(t, "Parse", one, two)
	if !alike(one, two) {
		t.Error("two answers to one call")
	}
}
