package utf

import (
	"math"
	"slices"
	"strings"
	"testing"
	"unicode/utf16"

	"colophon/api"
)

// edges are the code points near which something changes.
func edges() []int {
	return []int{
		0, 1, 8, 9, 10, 13, 32, 65, 126, 127, 128, 129, 159, 160, 255, 256, 2046, 2047, 2048, 2049, 4095, 4096,
		55294, 55295, 57344, 57345, 65278, 65279, 65533, 65534, 65535, 65536, 65537, 66559, 66560, 262143, 262144, 1114110, 1114111,
	}
}

// noPoints are numbers that are no code points; a rune made of some of them is.
func noPoints() []int {
	return []int{
		-1, -2, -97, -128, -65536, 55296, 55297, 56319, 56320, 57342, 57343, 1114112, 1114113, 2097151, 2097152,
		math.MinInt32, math.MaxInt32, 1 << 32, 1<<32 + 97, 1<<63 - 1<<32 + 97, -1<<32 + 97, 1 << 40,
		math.MinInt, math.MinInt + 1, math.MinInt + 97, math.MaxInt - 1, math.MaxInt,
	}
}

// points are all code points.
func points() []int {
	var l []int
	for c := range 1114112 {
		if c < 0xd800 || c > 0xdfff {
			l = append(l, c)
		}
	}
	return l
}

// bits is a number in the form of so many bytes of UTF-8, be it right or not.
func bits(c, size int) string {
	if size == 1 {
		return string([]byte{byte(c)})
	}
	first := []int{0, 0, 0xc0, 0xe0, 0xf0, 0xf8, 0xfc}[size]
	text := []byte{byte(first | c>>(6*(size-1)))}
	for size--; size > 0; size-- {
		text = append(text, byte(0x80|c>>(6*(size-1))&0x3f))
	}
	return string(text)
}

// shortest is the UTF-8 of a code point.
func shortest(c int) string {
	for size, end := range []int{0, 0x80, 0x800, 0x10000} {
		if c < end {
			return bits(c, size)
		}
	}
	return bits(c, 4)
}

// plainDecode is what Decode ought to answer: at each place, each number of
// bytes is tried, and taken if it is the one form of a code point.
func plainDecode(s string) ([]int, int, api.Errno) {
	var l []int
	for at := 0; at < len(s); {
		size := 1
		for size <= 4 && !wholePoint(s[at:], size) {
			size++
		}
		if size > 4 {
			return nil, at, api.ErrUtf
		}
		l = append(l, value(s[at:at+size]))
		at += size
	}
	return l, 0, api.OK
}

// value is the number that bytes say which have the form of UTF-8.
func value(s string) int {
	if len(s) == 1 {
		return int(s[0])
	}
	c := int(s[0]) & (0x7f >> len(s))
	for i := 1; i < len(s); i++ {
		c = c<<6 | int(s[i])&0x3f
	}
	return c
}

// wholePoint tells whether some text's first bytes, so many, are a code point's.
func wholePoint(s string, size int) bool {
	if len(s) < size {
		return false
	}
	c := value(s[:size])
	return (c < 0xd800 || c > 0xdfff) && c <= 1114111 && shortest(c) == s[:size]
}

// readIs holds an answer of Decode or Narrow to what is asked.
func readIs(t *testing.T, what, s string, got []int, at int, err api.Errno, want []int, wantAt int, wantErr api.Errno) {
	t.Helper()
	if !slices.Equal(got, want) || at != wantAt || err != wantErr {
		t.Errorf("%s of % x: %v, %d, %d; asked: %v, %d, %d", what, s, got, at, err, want, wantAt, wantErr)
	}
}

func decodes(t *testing.T, s string, want []int, wantAt int, wantErr api.Errno) {
	t.Helper()
	got, at, err := Decode(s)
	readIs(t, "Decode", s, got, at, err, want, wantAt, wantErr)
}

func narrows(t *testing.T, s string, want []int, wantAt int, wantErr api.Errno) {
	t.Helper()
	got, at, err := Narrow(s)
	readIs(t, "Narrow", s, got, at, err, want, wantAt, wantErr)
}

// textIs holds an answer of Encode or Wide to what is asked.
func textIs(t *testing.T, what string, l []int, got string, err api.Errno, want string, wantErr api.Errno) {
	t.Helper()
	if got != want || err != wantErr {
		t.Errorf("%s(%d) = % x, %d; asked: % x, %d", what, l, got, err, want, wantErr)
	}
}

// P4.1

func TestDecodeExamples(t *testing.T) {
	for _, x := range []struct {
		s    string
		want []int
		at   int
		err  api.Errno
	}{
		{"", nil, 0, api.OK},
		{"a\u00e9", []int{97, 233}, 0, api.OK},
		{"\x00\u007f\u0080\u07ff\u0800\uffff\U00010000\U0010ffff", []int{0, 127, 128, 2047, 2048, 65535, 65536, 1114111}, 0, api.OK},
		{"\ud7ff\ue000", []int{55295, 57344}, 0, api.OK},
		{"\ufffd", []int{65533}, 0, api.OK}, // what Go tells of wrong bytes, here by right ones
		{"a\ufffd\xff", nil, 4, api.ErrUtf},
		{"\ufeffa", []int{65279, 97}, 0, api.OK}, // a mark of UTF-8 is a code point like others
		{"  \n", []int{32, 32, 10}, 0, api.OK},
		{"\x61\xc3", nil, 1, api.ErrUtf},
		{"\xc0\x80", nil, 0, api.ErrUtf},
		{"\xed\xa0\x80", nil, 0, api.ErrUtf},
		{"\xf4\x90\x80\x80", nil, 0, api.ErrUtf},
		{"\x80", nil, 0, api.ErrUtf},
		{"\x61\xe2\x82\x62", nil, 1, api.ErrUtf},
		{"\xff", nil, 0, api.ErrUtf},
		{"\xfe\xff\x00a", nil, 0, api.ErrUtf},
		{"\u00e9\u20ac\xf0\x9f\x98", nil, 5, api.ErrUtf},
		{"a\x80\xff", nil, 1, api.ErrUtf}, // of two faults the first
	} {
		decodes(t, x.s, x.want, x.at, x.err)
	}
}

func TestDecodeAndEncodeEachCodePoint(t *testing.T) {
	for _, c := range points() {
		s := shortest(c)
		decodes(t, s, []int{c}, 0, api.OK)
		got, err := Encode([]int{c})
		textIs(t, "Encode", []int{c}, got, err, s, api.OK)
	}
}

func TestLengthsOfUtf8(t *testing.T) {
	for c, size := range map[int]int{
		0: 1, 127: 1, 128: 2, 2047: 2, 2048: 3, 55295: 3, 57344: 3, 65535: 3, 65536: 4, 1114111: 4,
	} {
		got, err := Encode([]int{c})
		if len(got) != size || err != api.OK {
			t.Errorf("Encode of %d: % x, %d", c, got, err)
		}
	}
}

// wrongBytes are texts that have no code point at their beginning.
func wrongBytes() []string {
	var l []string
	for c := 0x80; c <= 0xbf; c++ { // goes on without one that begins
		l = append(l, string([]byte{byte(c)}))
	}
	for c := 0xc0; c <= 0xff; c++ { // begins without all that go on
		l = append(l, string([]byte{byte(c)}), string([]byte{byte(c), 'a'}), string([]byte{byte(c), 0xc3, 0xa9}))
	}
	for _, c := range []int{128, 2047, 2048, 55295, 57344, 65535, 65536, 1114111} { // ends too early, at each place
		s := shortest(c)
		for n := 1; n < len(s); n++ {
			l = append(l, s[:n], s[:n]+"a", s[:n]+s)
		}
	}
	for size, end := range []int{0, 0, 0x80, 0x800, 0x10000, 0x200000, 0x4000000} { // in more bytes than do
		for _, c := range []int{0, 1, 47, 97, 127, 128, 2047, 2048, 65535, 65536, 1114111, end - 1} {
			if 0 <= c && c < end {
				l = append(l, bits(c, size))
			}
		}
	}
	for c := 0xd800; c <= 0xdfff; c++ {
		l = append(l, bits(c, 3))
	}
	l = append(l, bits(0xd800, 3)+bits(0xdc00, 3), bits(0xd83d, 3)+bits(0xde00, 3)) // a pair, each half as if it were one
	for _, c := range []int{1114112, 1114113, 1<<21 - 1} {
		l = append(l, bits(c, 4))
	}
	for c := 0xf5; c <= 0xff; c++ { // begins nothing, whatever goes on
		for n := range 6 {
			l = append(l, string([]byte{byte(c)})+strings.Repeat("\x80", n), string([]byte{byte(c)})+strings.Repeat("\xbf", n))
		}
	}
	return l
}

func TestDecodeOfWrongBytesFirstMidstAndLast(t *testing.T) {
	for _, bad := range wrongBytes() {
		decodes(t, bad, nil, 0, api.ErrUtf)
		for _, good := range []string{"a", "\x00", "\u07ff", "\uffff", "\U0010ffff", "a \u00e9\u20ac\U0001f600"} {
			decodes(t, bad+good, nil, 0, api.ErrUtf)
			decodes(t, good+bad, nil, len(good), api.ErrUtf)
			decodes(t, good+bad+good, nil, len(good), api.ErrUtf)
			decodes(t, good+good+bad+bad, nil, 2*len(good), api.ErrUtf)
		}
	}
}

func TestDecodeOfShortTexts(t *testing.T) {
	texts := []string{""}
	bytes := "\x00a\x7f\x80\x8f\x90\x9f\xa0\xbf\xc0\xc1\xc2\xdf\xe0\xe1\xec\xed\xee\xef\xf0\xf1\xf3\xf4\xf5\xf8\xfe\xff"
	for range 4 {
		var longer []string
		for _, s := range texts {
			for i := range len(bytes) {
				longer = append(longer, s+bytes[i:i+1])
			}
		}
		texts = longer
		for _, s := range texts {
			want, at, err := plainDecode(s)
			decodes(t, s, want, at, err)
		}
	}
}

func TestEncode(t *testing.T) {
	for _, l := range [][]int{nil, {}, {97}, {97, 233, 8364, 128512}, {32, 9}, {65279, 97}, edges()} {
		want := ""
		for _, c := range l {
			want += shortest(c)
		}
		got, err := Encode(l)
		textIs(t, "Encode", l, got, err, want, api.OK)
	}
}

// withOne are lists with a number first, in the midst, last, alone and twice.
func withOne(c int) [][]int {
	return [][]int{{c}, {c, 97}, {97, c}, {97, c, 65536}, {0, 233, 8364, c}, {c, 0, 233, 8364}, {c, c}}
}

func TestEncodeAndWideOfNoCodePoints(t *testing.T) {
	for _, c := range noPoints() {
		for _, l := range withOne(c) {
			got, err := Encode(l)
			textIs(t, "Encode", l, got, err, "", api.ErrUtf)
			got, err = Wide(l)
			textIs(t, "Wide", l, got, err, "", api.ErrUtf)
		}
	}
	for c := 0xd800; c <= 0xdfff; c++ {
		got, err := Encode([]int{c})
		textIs(t, "Encode", []int{c}, got, err, "", api.ErrUtf)
		got, err = Wide([]int{c})
		textIs(t, "Wide", []int{c}, got, err, "", api.ErrUtf)
	}
}

// P4.2

func TestClassAtTheEdges(t *testing.T) {
	for c, want := range map[int]int{
		0: api.ClassControl, 8: api.ClassControl, 9: api.ClassBlank, 10: api.ClassBlank, 11: api.ClassControl, 12: api.ClassControl,
		13: api.ClassBlank, 14: api.ClassControl, 31: api.ClassControl, 32: api.ClassBlank, 33: api.ClassOther,
		47: api.ClassOther, 48: api.ClassDigit, 57: api.ClassDigit, 58: api.ClassOther,
		64: api.ClassOther, 65: api.ClassLetter, 90: api.ClassLetter, 91: api.ClassOther,
		96: api.ClassOther, 97: api.ClassLetter, 122: api.ClassLetter, 123: api.ClassOther,
		126: api.ClassOther, 127: api.ClassControl, 128: api.ClassControl, 133: api.ClassControl, 159: api.ClassControl, 160: api.ClassOther,
		170: api.ClassOther, 181: api.ClassOther, 186: api.ClassOther, 178: api.ClassOther,
		191: api.ClassOther, 192: api.ClassLetter, 214: api.ClassLetter, 215: api.ClassOther, 216: api.ClassLetter,
		222: api.ClassLetter, 223: api.ClassLetter, 233: api.ClassLetter,
		246: api.ClassLetter, 247: api.ClassOther, 248: api.ClassLetter, 255: api.ClassLetter, 256: api.ClassOther,
		8232: api.ClassOther, 8195: api.ClassOther, 12288: api.ClassOther, 1632: api.ClassOther, 945: api.ClassOther,
		55295: api.ClassOther, 55296: api.ClassNone, 57343: api.ClassNone, 57344: api.ClassOther,
		65535: api.ClassOther, 65536: api.ClassOther, 65536 + 97: api.ClassOther, 1114111: api.ClassOther, 1114112: api.ClassNone,
	} {
		if got := Class(c); got != want {
			t.Errorf("Class(%d) = %d; asked: %d", c, got, want)
		}
	}
	for _, c := range noPoints() {
		if got := Class(c); got != api.ClassNone {
			t.Errorf("Class(%d) = %d", c, got)
		}
	}
}

// The members of the classes, one by one.
func TestClassOfEachCodePoint(t *testing.T) {
	members := map[int]int{9: api.ClassBlank, 10: api.ClassBlank, 13: api.ClassBlank, 32: api.ClassBlank}
	for _, c := range "0123456789" {
		members[int(c)] = api.ClassDigit
	}
	for _, c := range "ABCDEFGHIJKLMNOPQRSTUVWXYZabcdefghijklmnopqrstuvwxyz" +
		"ÀÁÂÃÄÅÆÇÈÉÊËÌÍÎÏÐÑÒÓÔÕÖØÙÚÛÜÝÞßàáâãäåæçèéêëìíîïðñòóôõöøùúûüýþÿ" {
		members[int(c)] = api.ClassLetter
	}
	for c := range 160 {
		if _, taken := members[c]; !taken && (c < 32 || c > 126) {
			members[c] = api.ClassControl
		}
	}
	for _, c := range points() {
		want, named := members[c]
		if !named {
			want = api.ClassOther
		}
		if got := Class(c); got != want {
			t.Errorf("Class(%d) = %d; asked: %d", c, got, want)
		}
	}
}

func TestLower(t *testing.T) {
	for c, want := range map[int]int{
		64: 64, 65: 97, 77: 109, 90: 122, 91: 91, 97: 97, 122: 122, 48: 48, 32: 32, 0: 0,
		191: 191, 192: 224, 201: 233, 214: 246, 215: 215, 216: 248, 222: 254, 223: 223, 224: 224, 233: 233, 247: 247, 254: 254, 255: 255,
		256: 256, 376: 376, 913: 913, 1040: 1040, 7838: 7838, 8490: 8490, 65313: 65313, 65536 + 65: 65536 + 65, 66560: 66560,
		-65: -65, -1: -1, -32: -32, 55296: 55296, 57343: 57343, 1114111: 1114111, 1114112: 1114112,
	} {
		if got := Lower(c); got != want {
			t.Errorf("Lower(%d) = %d; asked: %d", c, got, want)
		}
	}
	for _, c := range append(noPoints(), 1<<32+65, -1<<32+65, 1<<32+201) {
		if got := Lower(c); got != c {
			t.Errorf("Lower(%d) = %d", c, got)
		}
	}
}

func TestLowerOfEachCodePoint(t *testing.T) {
	capitals := []rune("ABCDEFGHIJKLMNOPQRSTUVWXYZÀÁÂÃÄÅÆÇÈÉÊËÌÍÎÏÐÑÒÓÔÕÖØÙÚÛÜÝÞ")
	small := []rune("abcdefghijklmnopqrstuvwxyzàáâãäåæçèéêëìíîïðñòóôõöøùúûüýþ")
	for _, c := range points() {
		want := c
		if i := slices.Index(capitals, rune(c)); i >= 0 {
			want = int(small[i])
		}
		if got := Lower(c); got != want {
			t.Errorf("Lower(%d) = %d; asked: %d", c, got, want)
		}
	}
}

// P4.3

func TestWords(t *testing.T) {
	for _, x := range []struct {
		l    []int
		want []api.Span
	}{
		{nil, nil},
		{[]int{}, nil},
		{[]int{32}, nil},
		{[]int{9, 10, 13, 32}, nil},
		{[]int{97}, []api.Span{{From: 0, To: 1}}},
		{[]int{97, 98, 99}, []api.Span{{From: 0, To: 3}}},
		{[]int{32, 32, 97, 98, 32, 99}, []api.Span{{From: 2, To: 4}, {From: 5, To: 6}}},
		{[]int{97, 32}, []api.Span{{From: 0, To: 1}}},
		{[]int{32, 97}, []api.Span{{From: 1, To: 2}}},
		{[]int{97, 9, 98, 10, 99, 13, 100, 32, 101}, []api.Span{{From: 0, To: 1}, {From: 2, To: 3}, {From: 4, To: 5}, {From: 6, To: 7}, {From: 8, To: 9}}},
		{[]int{97, 32, 9, 10, 13, 98}, []api.Span{{From: 0, To: 1}, {From: 5, To: 6}}},
		// Only four numbers are blanks: not a control, a wide space, or no code point.
		{[]int{97, 11, 12, 0, 160, 8195, 12288, 133, 8232}, []api.Span{{From: 0, To: 9}}},
		{[]int{-7}, []api.Span{{From: 0, To: 1}}},
		{[]int{55296, 32, 1114112, 32, math.MinInt, 32, math.MaxInt}, []api.Span{{From: 0, To: 1}, {From: 2, To: 3}, {From: 4, To: 5}, {From: 6, To: 7}}},
		{[]int{1<<32 + 32, -1<<32 + 32, 256 + 32, 32, -32}, []api.Span{{From: 0, To: 3}, {From: 4, To: 5}}},
	} {
		if got := Words(x.l); !slices.Equal(got, x.want) {
			t.Errorf("Words(%d) = %v; asked: %v", x.l, got, x.want)
		}
	}
}

// Each stretch holds no blank, can't be made longer, and none is passed over.
func TestWordsOfAllShortLists(t *testing.T) {
	kinds := []int{32, 97, 10, -1}
	lists := [][]int{nil}
	for range 6 {
		var longer [][]int
		for _, l := range lists {
			for _, c := range kinds {
				longer = append(longer, append(slices.Clone(l), c))
			}
		}
		lists = longer
		for _, l := range lists {
			if got, want := Words(l), stretches(l); !slices.Equal(got, want) {
				t.Errorf("Words(%d) = %v; asked: %v", l, got, want)
			}
		}
	}
}

// stretches are those that are asked, each found by its two ends.
func stretches(l []int) []api.Span {
	word := func(i int) bool { return i >= 0 && i < len(l) && !slices.Contains([]int{9, 10, 13, 32}, l[i]) }
	var found []api.Span
	for from := range l {
		if word(from-1) || !word(from) {
			continue
		}
		to := from
		for word(to) {
			to++
		}
		found = append(found, api.Span{From: from, To: to})
	}
	return found
}

// P4.4

// units are numbers as bytes, the high one first.
func units(l ...uint16) string {
	var text []byte
	for _, u := range l {
		text = append(text, byte(u>>8), byte(u))
	}
	return string(text)
}

// wideOf is a code point's UTF-16, as Go's library has it.
func wideOf(c int) string { return units(utf16.Encode([]rune{rune(c)})...) }

func TestWide(t *testing.T) {
	for _, x := range []struct {
		l    []int
		want string
	}{
		{nil, "\xfe\xff"},
		{[]int{}, "\xfe\xff"},
		{[]int{97}, "\xfe\xff\x00\x61"},
		{[]int{0}, "\xfe\xff\x00\x00"},
		{[]int{55295, 57344}, "\xfe\xff\xd7\xff\xe0\x00"},
		{[]int{65535}, "\xfe\xff\xff\xff"},
		{[]int{65536}, "\xfe\xff\xd8\x00\xdc\x00"},
		{[]int{66559, 66560}, "\xfe\xff\xd8\x00\xdf\xff\xd8\x01\xdc\x00"},
		{[]int{1114111, 97}, "\xfe\xff\xdb\xff\xdf\xff\x00a"},
		{[]int{65279, 65534}, "\xfe\xff\xfe\xff\xff\xfe"}, // a second mark is a code point
	} {
		got, err := Wide(x.l)
		textIs(t, "Wide", x.l, got, err, x.want, api.OK)
		narrows(t, x.want, x.l, 0, api.OK)
	}
}

func TestWideAndNarrowEachCodePoint(t *testing.T) {
	for _, c := range points() {
		want := "\xfe\xff" + wideOf(c)
		got, err := Wide([]int{c})
		textIs(t, "Wide", []int{c}, got, err, want, api.OK)
		narrows(t, want, []int{c}, 0, api.OK)
	}
}

func TestNarrowWithoutItsMark(t *testing.T) {
	for _, s := range []string{
		"", "\xfe", "\xff", "\xff\xfe", "\xff\xfe\x61\x00", "\xfe\xfe\x00a", "\xff\xff\x00a", "\xfeaa", "\x00a", "a", "\x00\xfe\xff\x00a",
		"a\xfe\xff\x00a", "\xef\xbb\xbfa", "\xef\xbf\xbd", "\xd8\x00", "\xfe\x00\xff\x00", " \xfe\xff", "\x00\x00\xfe\xff",
	} {
		narrows(t, s, nil, 0, api.ErrUtf)
	}
}

func TestNarrowOfWrongUnitsFirstMidstAndLast(t *testing.T) {
	wrong := []string{
		units(0xd800), units(0xdbff), units(0xdc00), units(0xdfff),
		units(0xd800, 0xd800), units(0xd83d, 0xd83d), units(0xdbff, 0xdbff), units(0xd800, 0xdbff, 0xdc00),
		units(0xdc00, 0xd800), units(0xdfff, 0xdbff), units(0xdc00, 0xdc00), units(0xde00, 0xd83d, 0xde00),
		units(0xd800, 0), units(0xd800, 'a'), units(0xd800, 0xd7ff), units(0xd800, 0xe000), units(0xdbff, 0xffff), units(0xdbff, 0xe000),
		units(0xdc00, 'a'), units(0xdfff, 0xe000),
	}
	good := []string{units('a'), units(0), units(0xd7ff), units(0xe000), units(0xffff), units(0xd800, 0xdc00), units(0xdbff, 0xdfff), units('a', 0xd83d, 0xde00, 0x20ac)}
	for _, bad := range wrong {
		narrows(t, mark+bad, nil, 2, api.ErrUtf)
		for _, g := range good {
			narrows(t, mark+bad+g, nil, 2, api.ErrUtf)
			narrows(t, mark+g+bad, nil, 2+len(g), api.ErrUtf)
			narrows(t, mark+g+bad+g, nil, 2+len(g), api.ErrUtf)
			narrows(t, mark+g+g+bad+bad, nil, 2+2*len(g), api.ErrUtf)
		}
	}
}

func TestNarrowOfAnOddNumberOfBytes(t *testing.T) {
	for _, c := range []byte{0, 'a', 0xd8, 0xdb, 0xdc, 0xdf, 0xfe, 0xff} {
		odd := string([]byte{c})
		narrows(t, mark+odd, nil, 2, api.ErrUtf)
		narrows(t, mark+units('a')+odd, nil, 4, api.ErrUtf)
		narrows(t, mark+units(0xd800, 0xdc00)+odd, nil, 6, api.ErrUtf)
		narrows(t, mark+units('a', 0xd800)+odd, nil, 4, api.ErrUtf) // the place is the pair's
		narrows(t, mark+units(0xdc00, 'a')+odd, nil, 2, api.ErrUtf) // the first fault's
		narrows(t, mark+units(0xd800, 'a')+odd, nil, 2, api.ErrUtf) // likewise
		narrows(t, mark+units(0xd800, 0xd800)+odd, nil, 2, api.ErrUtf)
	}
}

// plainNarrow is what Narrow ought to answer, by Go's own pairs.
func plainNarrow(s string) ([]int, int, api.Errno) {
	if len(s) < 2 || s[:2] != "\xfe\xff" {
		return nil, 0, api.ErrUtf
	}
	var l []int
	for at := 2; at < len(s); {
		found := 0
		for _, size := range []int{2, 4} {
			if at+size > len(s) {
				continue
			}
			var read []uint16
			for i := at; i < at+size; i += 2 {
				read = append(read, uint16(s[i])<<8|uint16(s[i+1]))
			}
			// The library writes no half alone, so what comes back was one whole.
			if runes := utf16.Decode(read); len(runes) == 1 && wideOf(int(runes[0])) == s[at:at+size] {
				l, found = append(l, int(runes[0])), size
				break
			}
		}
		if found == 0 {
			return nil, at, api.ErrUtf
		}
		at += found
	}
	return l, 0, api.OK
}

func TestNarrowOfShortTexts(t *testing.T) {
	numbers := []uint16{0, 0x61, 0xd7ff, 0xd800, 0xdb12, 0xdbff, 0xdc00, 0xdd34, 0xdfff, 0xe000, 0xfeff, 0xfffd, 0xfffe, 0xffff}
	texts := []string{mark}
	for range 4 {
		var longer []string
		for _, s := range texts {
			for _, u := range numbers {
				longer = append(longer, s+units(u))
			}
		}
		texts = longer
		for _, s := range texts {
			for _, cut := range []string{s, s[:len(s)-1]} {
				want, at, err := plainNarrow(cut)
				narrows(t, cut, want, at, err)
			}
		}
	}
}

// P4.5

// someLists are lists of code points at their edges, in ones, pairs and all.
func someLists() [][]int {
	lists := [][]int{nil, edges(), points()}
	for _, a := range edges() {
		lists = append(lists, []int{a})
		for _, b := range edges() {
			lists = append(lists, []int{a, b}, []int{b, a, a})
		}
	}
	return lists
}

func TestWrittenAndReadBack(t *testing.T) {
	for _, l := range someLists() {
		s, err := Encode(l)
		back, at, backErr := Decode(s)
		if err != api.OK || backErr != api.OK || at != 0 || !slices.Equal(back, l) {
			t.Errorf("Decode(Encode) of %d numbers: %d, %d, place %d", len(l), err, backErr, at)
		}
		s, err = Wide(l)
		back, at, backErr = Narrow(s)
		if err != api.OK || backErr != api.OK || at != 0 || !slices.Equal(back, l) {
			t.Errorf("Narrow(Wide) of %d numbers: %d, %d, place %d", len(l), err, backErr, at)
		}
	}
}

func TestReadAndWrittenBack(t *testing.T) {
	utf8s, utf16s := "", mark
	for _, c := range edges() {
		utf8s, utf16s = utf8s+shortest(c), utf16s+wideOf(c)
		l, _, err := Decode(utf8s)
		if s, backErr := Encode(l); s != utf8s || err != api.OK || backErr != api.OK {
			t.Errorf("Encode(Decode(% x)) = % x, %d, %d", utf8s, s, err, backErr)
		}
		l, _, err = Narrow(utf16s)
		if s, backErr := Wide(l); s != utf16s || err != api.OK || backErr != api.OK {
			t.Errorf("Wide(Narrow(% x)) = % x, %d, %d", utf16s, s, err, backErr)
		}
	}
}

func TestLowerTwice(t *testing.T) {
	for _, c := range slices.Concat(points(), noPoints()) {
		if Lower(Lower(c)) != Lower(c) {
			t.Errorf("Lower(Lower(%d)) = %d, Lower(%d) = %d", c, Lower(Lower(c)), c, Lower(c))
		}
	}
}

// The rules that hold everywhere.

func TestAListStaysAsItWas(t *testing.T) {
	first := []int{97, 32, 66, 233, 10, 65536, 201, -1, 55296, 32}
	room := slices.Clone(first)
	for n := range len(room) + 1 {
		Encode(room[:n])
		Wide(room[:n])
		Words(room[:n])
		if !slices.Equal(room, first) {
			t.Fatalf("of %d numbers was left: %d", n, room)
		}
	}
	// The spare room holds what would be found wrong, if it were looked at.
	got, err := Encode(room[:6])
	textIs(t, "Encode", room[:6], got, err, "a Bé\n\U00010000", api.OK)
	got, err = Wide(room[:1])
	textIs(t, "Wide", room[:1], got, err, "\xfe\xff\x00a", api.OK)
	if words := Words(room[:3]); !slices.Equal(words, []api.Span{{From: 0, To: 1}, {From: 2, To: 3}}) {
		t.Errorf("Words(%d) = %v", room[:3], words)
	}
}

func TestAnswersShareNoMemory(t *testing.T) {
	spoil := func(l []int) {
		for i := range l[:cap(l)] {
			l[:cap(l)][i] = -5
		}
	}
	for _, s := range []string{"a", "abc", "ab\u20ac \U0001f600"} {
		a, _, _ := Decode(s)
		wide, _ := Wide(a)
		b, _, _ := Decode(s)
		c, _, _ := Narrow(wide)
		d, _, _ := Narrow(wide)
		words, others := Words(a), Words(b)
		want := slices.Clone(a)
		wantWords := slices.Clone(words)
		spoil(a)
		spoil(c)
		for i := range words[:cap(words)] {
			words[:cap(words)][i] = api.Span{From: -5, To: -5}
		}
		if !slices.Equal(b, want) || !slices.Equal(d, want) || !slices.Equal(others, wantWords) {
			t.Errorf("of %q: %d, %d, %v", s, b, d, others)
		}
	}
}
