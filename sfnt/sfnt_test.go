package sfnt

import (
	"fmt"
	"math"
	"slices"
	"strings"
	"testing"
	"unsafe"

	"colophon/api"
)

func TestTheChaptersExamples(t *testing.T) {
	for s, want := range map[string]int{"abcd": 1633837924, "a": 1627389952, "\xff\xff\xff\xff\xff\xff\xff\xff": 4294967294} {
		if got := Sum(s); got != want {
			t.Errorf("Sum(%q) is %d; asked: %d", s, got, want)
		}
	}
	const file = "\x00\x01\x00\x00\x00\x01\x00\x10\x00\x00\x00\x00" + "abcd\x78\x00\x00\x00\x00\x00\x00\x1c\x00\x00\x00\x01" + "\x78\x00\x00\x00"
	if s, err := Build(tables(table("abcd", "x"))); s != file || err != api.OK || len(file) != 32 {
		t.Errorf("Build: %q, %v", s, err)
	}
	right(t, "the example", file, table("abcd", "x"))
	wrong(t, "11 bytes", file[:11], api.ErrTable)
	wrong(t, "a byte of a table turned", turned(file, 28, 'y'), api.ErrSum)
}

// P8.1

func TestSums(t *testing.T) {
	for _, x := range []struct {
		s    string
		want int
	}{
		{"", 0},
		{"\x12", 0x12000000}, {"\x12\x34", 0x12340000}, {"\x12\x34\x56", 0x12345600}, {"\x12\x34\x56\x78", 0x12345678},
		{"\x12\x34\x56\x78\x01", 0x13345678}, {"\x12\x34\x56\x78\x01\x02", 0x13365678}, {"\x12\x34\x56\x78\x01\x02\x03", 0x13365978}, {"\x12\x34\x56\x78\x01\x02\x03\x04", 0x1336597c},
		{"\x00", 0}, {"\x00\x00\x00\x00\x00", 0}, {"\x00\x00\x00\x01", 1}, {"\x00\x00\x01", 256}, {"\x00\x01", 65536}, {"\x01", 16777216},
		{"\x7f\xff\xff\xff", math.MaxInt32}, {"\x80\x00\x00\x00", 1 << 31}, {"\x80", 1 << 31}, {"\xff\xff\xff\xff", math.MaxUint32},
		{"\xff\xff\xff\xff\x00\x00\x00\x01", 0}, {"\xff\xff\xff\xff\x00\x00\x00\x02", 1}, {"\x80\x00\x00\x00\x80", 0}, {"\xff\xff\xff\xff\x01", 0xffffff},
		{"\x7f\xff\xff\xff\x80\x00\x00\x00", math.MaxUint32}, {"\x80\x00\x00\x00\x7f\xff\xff\xff\x00\x00\x00\x01", 0}, {"\x00\x00\x00\xff\x00\x00\x00\x01", 256}, {"\x00\x00\xff\xff\x00\x00\x00\x01", 65536},
		{strings.Repeat("\xff", 8), math.MaxUint32 - 1}, {strings.Repeat("\xff", 12), math.MaxUint32 - 2}, {strings.Repeat("\xff", 4096), 1<<32 - 1024}, {strings.Repeat("\xff", 4093), 1<<32 - 1023 - 1<<24},
	} {
		if got := Sum(x.s); got != x.want {
			t.Errorf("Sum(%s) is %x; asked: %x", tell(x.s), got, x.want)
		}
		if got := modelSum(x.s); got != x.want {
			t.Errorf("Sum(%s): this test's own is %x", tell(x.s), got)
		}
	}
	next := numbers(8)
	for length := range 300 {
		s := make([]byte, length)
		for i := range s {
			s[i] = byte(next(256)) | byte(length)
		}
		if got := Sum(string(s)); got != modelSum(string(s)) {
			t.Errorf("Sum(%s) is %x; asked: %x", tell(s), got, modelSum(string(s)))
		}
	}
}

// A sum is of any bytes, more than a file may have too.
func TestSumsOfLongTexts(t *testing.T) {
	s := strings.Repeat("\x80\x00\x00\x01", 3*api.MaxBytes)
	if got, want := Sum(s), 3*api.MaxBytes; got != want {
		t.Errorf("%d; asked: %d", got, want)
	}
	if got, want := Sum(s+"\x01"), 3*api.MaxBytes+1<<24; got != want {
		t.Errorf("%d; asked: %d", got, want)
	}
}

func TestFind(t *testing.T) {
	l := tables(table("head", "1"), table("a", "2"), table("head", "3"), table("none", ""), table("", "4"), table("none", "5"), table("long tag", "6"), table("hea", "7"), table("\x00\xff", "8"))
	for tag, want := range map[string]string{"head": "1", "a": "2", "none": "", "": "4", "long tag": "6", "hea": "7", "\x00\xff": "8"} {
		if got, ok := Find(l, tag); got != want || !ok {
			t.Errorf("Find(%q) is %q, %v; asked: %q", tag, got, ok, want)
		}
	}
	for _, tag := range []string{"headx", "Head", "he", "b", "aa", "long", "tag", "head\x00", "\x00", "\xff", "1", "3"} {
		if got, ok := Find(l, tag); got != "" || ok {
			t.Errorf("Find(%q) is %q, %v", tag, got, ok)
		}
	}
	for _, l := range [][]api.Table{nil, {}} {
		for _, tag := range []string{"", "head"} {
			if got, ok := Find(l, tag); got != "" || ok {
				t.Errorf("Find(%q) in nothing is %q, %v", tag, got, ok)
			}
		}
	}
	if got, ok := Find(l[1:], "head"); got != "3" || !ok {
		t.Errorf("the second head: %q, %v", got, ok)
	}
	if got, ok := Find(many(40), "t039"); got != "nnnn" || !ok {
		t.Errorf("the last of 40: %q, %v", got, ok)
	}
}

// P8.3 and P8.5

func TestFilesWrittenOut(t *testing.T) {
	for _, x := range []struct {
		l    []api.Table
		want string
	}{
		{tables(table("    ", "")), "\x00\x01\x00\x00\x00\x01\x00\x10\x00\x00\x00\x00" + "    \x00\x00\x00\x00\x00\x00\x00\x1c\x00\x00\x00\x00"},
		{tables(table("~~~~", "abcd")), "\x00\x01\x00\x00\x00\x01\x00\x10\x00\x00\x00\x00" + "~~~~abcd\x00\x00\x00\x1c\x00\x00\x00\x04" + "abcd"},
		{tables(table("b", "")), ""},
		{tables(table("bbbb", "12345"), table("aaaa", "xy")), "\x00\x01\x00\x00\x00\x02\x00\x20\x00\x01\x00\x00" +
			"aaaaxy\x00\x00\x00\x00\x00\x2c\x00\x00\x00\x02" + "bbbb\x66\x32\x33\x34\x00\x00\x00\x30\x00\x00\x00\x05" + "xy\x00\x00" + "12345\x00\x00\x00"},
		{tables(table("head", "0123456789a")), "\x00\x01\x00\x00\x00\x01\x00\x10\x00\x00\x00\x00" + "head\x9c\x9f\xc9\x6a\x00\x00\x00\x1c\x00\x00\x00\x0b" + "0123456789a\x00"},
		// 00010000 + 00010010 + 00000000 + 68656164 + 6466686a + 0000001c + 0000000c + 30313233 + 34353637 is 31343270 (and 2^32); b1b0afba less that is 807c7d4a.
		{tables(table("head", "0123456789ab")), "\x00\x01\x00\x00\x00\x01\x00\x10\x00\x00\x00\x00" + "head\x64\x66\x68\x6a\x00\x00\x00\x1c\x00\x00\x00\x0c" + "01234567\x80\x7c\x7d\x4a"},
	} {
		got, err := Build(x.l)
		if asked := map[bool]api.Errno{true: api.OK, false: api.ErrTable}[x.want != ""]; got != x.want || err != asked {
			t.Errorf("%s: %+q, %v; asked: %+q", tell(x.l), got, err, x.want)
		}
		built(t, x.l)
	}
}

func TestDirectoriesOfAllCounts(t *testing.T) {
	var powers, exponents, rests []int
	for n := 1; n <= 32; n++ {
		s := built(t, many(n))
		if at2(s, 4) != n || len(s) < 12+16*n || s[:4] != "\x00\x01\x00\x00" {
			t.Fatalf("%d tables: %+q", n, s)
		}
		powers, exponents, rests = append(powers, at2(s, 6)), append(exponents, at2(s, 8)), append(rests, at2(s, 10))
		right(t, fmt.Sprint(n, " tables"), s, many(n)...)
	}
	if !slices.Equal(powers, slices.Concat([]int{16, 32, 32}, slices.Repeat([]int{64}, 4), slices.Repeat([]int{128}, 8), slices.Repeat([]int{256}, 16), []int{512})) {
		t.Errorf("16 p: %v", powers)
	}
	if !slices.Equal(exponents, slices.Concat([]int{0, 1, 1, 2, 2, 2, 2}, slices.Repeat([]int{3}, 8), slices.Repeat([]int{4}, 16), []int{5})) {
		t.Errorf("q: %v", exponents)
	}
	for i, rest := range rests {
		if rest != 16*(i+1)-powers[i] {
			t.Errorf("16 (n - p) of %d is %d", i+1, rest)
		}
	}
}

func refused(t *testing.T, what string, l []api.Table, want api.Errno) {
	t.Helper()
	if s, err := Build(l); s != "" || err != want {
		t.Errorf("%s: %s, %v; asked: %v", what, tell(s), err, want)
	}
	if _, err := modelBuild(l); err != want {
		t.Errorf("%s: this test's own builder answers %v", what, err)
	}
}

func TestTablesThatMayNotBe(t *testing.T) {
	refused(t, "nil", nil, api.ErrTable)
	refused(t, "none", tables(), api.ErrTable)
	for _, n := range []int{33, 34, 64, 65536 + 1} {
		refused(t, fmt.Sprint(n, " tables"), many(min(n, 900)), api.ErrTable)
		refused(t, fmt.Sprint(n, " tables of nothing"), make([]api.Table, n), api.ErrTable)
	}
	for _, tag := range []string{"", "a", "abc", "abcde", "abcd ", "abcd\x00", "abcdabcd", "\u00e9bc", "\u00e9\u00e9", "\x00\x00\x00\x00", "\xff\xff\xff\xff", strings.Repeat("a", 65540)} {
		refused(t, "the tag "+tell(tag), tables(table(tag, "x")), api.ErrTable)
		refused(t, "ahead of another", tables(table(tag, "x"), table("good", "x")), api.ErrTable)
		refused(t, "behind another", tables(table("good", "x"), table(tag, "x")), api.ErrTable)
		refused(t, "between others", tables(table("good", "x"), table(tag, "x"), table("also", "")), api.ErrTable)
	}
	for at := range 4 {
		for b := range 256 {
			tag := turned("good", at, b)
			l := tables(table("abcd", "1"), table(tag, "23456"), table("zzzz", ""))
			if s := built(t, l); (b >= 32 && b <= 126) != (s != "") {
				t.Errorf("the byte %d at %d: %d bytes", b, at, len(s))
			}
		}
	}
	refused(t, "two that are one", tables(table("abcd", "x"), table("abcd", "y")), api.ErrTable)
	refused(t, "two that are the same", tables(table("abcd", "x"), table("abcd", "x")), api.ErrTable)
	refused(t, "two heads", tables(table("head", "0123456789ab"), table("head", "")), api.ErrTable)
	for i := range 32 {
		for j := range i {
			l := many(32)
			l[i].Tag = l[j].Tag
			refused(t, "two of 32", l, api.ErrTable)
		}
	}
}

func TestAnyOrder(t *testing.T) {
	l := tables(table("head", "0123456789abcdef"), table("AAAA", "1"), table("zz z", "22"), table("    ", "333"), table("~~~~", "4444"))
	want := built(t, l)
	var orders func(taken []api.Table)
	count := 0
	orders = func(taken []api.Table) {
		if len(taken) == len(l) {
			count++
			if s := built(t, taken); s != want {
				t.Errorf("%s: %s", tell(taken), tell(s))
			}
		}
		for _, x := range l {
			if !slices.Contains(taken, x) {
				orders(append(slices.Clone(taken), x))
			}
		}
	}
	orders(nil)
	if count != 120 {
		t.Errorf("%d orders", count)
	}
	back := many(32)
	slices.Reverse(back)
	if s, _ := Build(back); s != built(t, many(32)) {
		t.Errorf("32 tables from the last on: %s", tell(s))
	}
}

func TestLengthsAreFilledUp(t *testing.T) {
	for a := range 10 {
		for b := range 10 {
			s := built(t, tables(table("aaaa", strings.Repeat("\x81", a)), table("bbbb", strings.Repeat("\xff", b)), table("cccc", "")))
			places := [3]int{60, 60 + (a+3)/4*4, 60 + (a+3)/4*4 + (b+3)/4*4}
			if [3]int{at4(s, 20), at4(s, 36), at4(s, 52)} != places || [3]int{at4(s, 24), at4(s, 40), at4(s, 56)} != [3]int{a, b, 0} || len(s) != places[2] {
				t.Errorf("%d and %d bytes: %+q", a, b, s)
			}
			if s[60:] != filledUp(strings.Repeat("\x81", a))+filledUp(strings.Repeat("\xff", b)) {
				t.Errorf("%d and %d bytes: %+q", a, b, s[60:])
			}
		}
	}
}

func TestTheLongestFile(t *testing.T) {
	data := strings.Repeat("long", api.MaxBytes/4+8)
	for n := 1; n <= 32; n += 31 {
		room := api.MaxBytes - 12 - 16*n
		for _, x := range []struct {
			length int
			err    api.Errno
		}{
			{room - 4, api.OK}, {room - 3, api.OK}, {room - 1, api.OK}, {room, api.OK}, {room + 1, api.ErrLong}, {room + 2, api.ErrLong}, {room + 4, api.ErrLong}, {room + 16, api.ErrLong}, {api.MaxBytes, api.ErrLong}, {api.MaxBytes + 1, api.ErrLong},
		} {
			for _, tag := range []string{"head", "next"} {
				l := make([]api.Table, 0, n)
				for _, other := range many(n - 1) {
					l = append(l, table(other.Tag, ""))
				}
				l = append(l, table(tag, data[:x.length]))
				s := built(t, l)
				if _, err := Build(l); err != x.err || err == api.OK && len(s) != min(api.MaxBytes, 12+16*n+(x.length+3)/4*4) {
					t.Errorf("%d tables, %d bytes: %d bytes, %v", n, x.length, len(s), err)
				}
			}
		}
	}
	// Each would fit by itself.
	const less, rest = 524264, api.MaxBytes - 12 - 2*16 - 524264
	for _, x := range []struct {
		a, b int
		err  api.Errno
	}{{less, rest, api.OK}, {less - 3, rest - 3, api.OK}, {less - 4, rest + 4, api.OK}, {less - 3, rest + 1, api.ErrLong}, {less + 1, rest - 3, api.ErrLong}, {less + 1, rest, api.ErrLong}, {less, rest + 1, api.ErrLong}} {
		l := tables(table("bbbb", data[:x.a]), table("aaaa", data[:x.b]))
		s := built(t, l)
		if _, err := Build(l); err != x.err || err == api.OK && len(s) != api.MaxBytes {
			t.Errorf("%d and %d bytes: %d bytes, %v", x.a, x.b, len(s), err)
		}
	}
}

func TestLongTablesThatMayNotBe(t *testing.T) {
	long := strings.Repeat("a", api.MaxBytes+1)
	refused(t, "long", tables(table("abcd", long)), api.ErrLong)
	refused(t, "long, and no tag", tables(table("abc", long)), api.ErrTable)
	refused(t, "long, and no tag behind it", tables(table("abcd", long), table("\x1fzzz", "")), api.ErrTable)
	refused(t, "long, and two that are one", tables(table("abcd", long), table("zzzz", ""), table("zzzz", "")), api.ErrTable)
	l := many(33)
	l[0].Data = long
	refused(t, "long, and too many", l, api.ErrTable)
	refused(t, "32 that are long", func() []api.Table {
		l := many(32)
		for i := range l {
			l[i].Data = long
		}
		return l
	}(), api.ErrLong)
}

// All tables may share one text: what they have in all is far beyond what can
// be added up in time, and need not be.
func TestTablesThatAreFarTooLong(t *testing.T) {
	l := many(32)
	long := strings.Repeat("a", 1<<26)
	for i := range l {
		l[i].Data = long
	}
	if s, err := Build(l); s != "" || err != api.ErrLong {
		t.Errorf("%d bytes, %v", len(s), err)
	}
}

func TestHeadsNumber(t *testing.T) {
	for length := range 60 {
		data := strings.Repeat("\xf3h\x00\x91e", 12)[:length]
		for _, l := range [][]api.Table{tables(table("head", data)), tables(table("head", data), table("aaaa", "aa")), tables(table("zzzz", "zzzzz"), table("head", data)), append(many(31), table("head", data))} {
			s := built(t, l)
			back, _ := Read(s)
			got, ok := Find(back, "head")
			if !ok || len(got) != length || length < 12 && got != data {
				t.Errorf("a head of %d bytes comes back as %q", length, got)
			}
			if length >= 12 && (got[:8] != data[:8] || got[12:] != data[12:] || Sum(s) != 0xb1b0afba) {
				t.Errorf("a head of %d bytes comes back as %q; the sum of all is %x", length, got, Sum(s))
			}
		}
	}
	// What head's number was has no weight.
	want := built(t, tables(table("head", "0123456789abcdef"), table("maxp", "x")))
	for _, number := range []string{"\x00\x00\x00\x00", "\xff\xff\xff\xff", "\x80\x00\x00\x00", "89ac", "\x00\x00\x00\x01"} {
		if s := built(t, tables(table("head", "01234567"+number+"cdef"), table("maxp", "x"))); s != want {
			t.Errorf("%q: %+q", number, s)
		}
	}
	// No other table has such a number.
	for _, tag := range []string{"Head", "hea ", "heae", "hebd", "iead", "hhea", "HEAD", "daeh"} {
		s := built(t, tables(table(tag, "0123456789abcdef")))
		if !strings.HasSuffix(s, "0123456789abcdef") || Whole(s) {
			t.Errorf("%s: %+q", tag, s)
		}
	}
}

func TestManyLists(t *testing.T) {
	tags := []string{"head", "glyf", "loca", "cmap", "hhea", "maxp", "hmtx", "OS/2", "cvt ", "    ", "~~~~", "abc", "ab\x7fc"}
	taken := 0
	for seed := range 20000 {
		next := numbers(seed)
		var l []api.Table
		for range 1 + next(6) {
			bytes := make([]byte, next(2)*next(40))
			for i := range bytes {
				bytes[i] = byte(next(256) * next(3))
			}
			l = append(l, table(tags[next(len(tags)-2+next(30)/28*2)], string(bytes)))
		}
		if built(t, l) != "" {
			taken++
		}
	}
	if taken < 5000 || taken > 15000 {
		t.Errorf("%d of 20000 taken: too few of one kind", taken)
	}
}

// P8.4

func TestWhole(t *testing.T) {
	l := tables(table("head", "0123456789abcdef"), table("glyf", "12345"), table("zzzz", ""))
	s := built(t, l)
	at := at4(s, 28+8) + 8
	if s[28:32] != "head" || !Whole(s) {
		t.Fatalf("%+q", s)
	}
	number := at4(s, at)
	for bit := range 32 {
		other := s[:at] + four(number^1<<bit) + s[at+4:]
		if _, err := Read(other); err != api.OK || Whole(other) {
			t.Errorf("the bit %d turned: %v, %v", bit, err, Whole(other))
		}
	}
	for _, by := range []int{1, -1, 2, 255, 256, 65536, 1 << 24, 1 << 31} {
		if other := s[:at] + four(number+by) + s[at+4:]; Whole(other) || modelWhole(other) {
			t.Errorf("%d more: whole", by)
		}
	}
	for i := range 4 {
		for b := range 256 {
			alike(t, turned(s, at+i, b))
		}
	}
	// What is behind the last table, and what it is filled up with, is of the sum as well.
	for _, more := range []string{"\x00", "\x00\x00\x00\x00\x00", "\x01", "a", "abcd", "\x00\x00\x00\x01", "\xff\xff\xff\xff\x00\x00\x00\x01"} {
		if got, want := Whole(s+more), modelSum(more) == 0; got != want || modelWhole(s+more) != want {
			t.Errorf("with %q behind it: %v", more, got)
		}
	}
	gap := at4(s, 12+8) + 5
	if s[gap-1] != '5' || s[gap:gap+3] != "\x00\x00\x00" {
		t.Fatalf("%+q", s)
	}
	if x := turned(s, gap, 1); Whole(x) || alike(t, x) != api.OK {
		t.Error("a filling byte turned: whole")
	}
}

func TestWholeWithoutAHead(t *testing.T) {
	// These have the sum of a whole file, but no number that says so.
	summing := func(tag string, length int) string {
		d := drawn(table(tag, strings.Repeat("a", length)))
		s := d.text()
		return s + strings.Repeat("\x00", -len(s)&3) + four(0xb1b0afba-modelSum(s))
	}
	for _, tag := range []string{"Head", "head", "heac", "glyf"} {
		for length := range 16 {
			s := summing(tag, length)
			if Sum(s) != 0xb1b0afba || alike(t, s) != api.OK {
				t.Fatalf("%q", s)
			}
			if got, want := Whole(s), tag == "head" && length >= 12; got != want || modelWhole(s) != want {
				t.Errorf("%s of %d bytes: %v", tag, length, got)
			}
		}
	}
	for _, s := range []string{"", "a", "\xb1\xb0\xaf\xba", strings.Repeat("\x00", 100), "\x00\x01\x00\x00"} {
		if Whole(s) {
			t.Errorf("%q is whole", s)
		}
	}
}

// A file may have the right sum, and be refused all the same.
func TestWholeOfWhatReadRefuses(t *testing.T) {
	s := built(t, tables(table("glyf", "1234"), table("head", "0123456789abcdef")))
	swap := func(a, b int) string { // two numbers of four bytes
		return s[:a] + s[b:b+4] + s[a+4:b] + s[a:a+4] + s[b+4:]
	}
	for what, x := range map[string]struct {
		s   string
		err api.Errno
	}{
		"two tags in each other's place":   {swap(12, 28), api.ErrTable},
		"two sums in each other's place":   {swap(16, 32), api.ErrSum},
		"two places in each other's place": {swap(20, 36), api.ErrTable},
		"two words of two tables":          {swap(44, 48), api.ErrSum},
		"the first words":                  {swap(0, 4), api.ErrTable},
	} {
		if Sum(x.s) != 0xb1b0afba {
			t.Errorf("%s: the sum is %x", what, Sum(x.s))
		}
		wrong(t, what, x.s, x.err)
	}
	full := built(t, tables(table("head", strings.Repeat("a", api.MaxBytes-28))))
	if len(full) != api.MaxBytes || !Whole(full) || Whole(full+"\x00") {
		t.Errorf("%d bytes", len(full))
	}
}

// What is handed in is not changed, and nothing told is shared.

func TestNothingHandedInIsChanged(t *testing.T) {
	lists := [][]api.Table{many(32), many(33), nil, tables(table("zzzz", "1"), table("head", "0123456789ab"), table("aaaa", "2")), tables(table("b", "1"), table("a", "2")), tables(table("same", "1"), table("same", "2")), tables(table("zzzz", strings.Repeat("a", api.MaxBytes)), table("aaaa", ""))}
	slices.Reverse(lists[0])
	slices.Reverse(lists[1])
	for _, l := range lists {
		roomy := slices.Concat(l, tables(table("spare", "room"), table("AAAA", "more")))
		was := slices.Clone(roomy)
		Build(roomy[:len(l)])
		Find(roomy[:len(l)], "head")
		Find(roomy[:len(l)], "spare")
		if !same(roomy, was) {
			t.Errorf("%s is changed to %s", tell(was), tell(roomy))
		}
	}
	if _, ok := Find(tables(table("aaaa", ""), table("bbbb", ""))[:1], "bbbb"); ok {
		t.Error("Find looks into spare room")
	}
}

// stretch is the memory of a text, or of a list with its spare room. It holds a
// pointer, not a number, so that this memory is not freed and given to another
// answer while stretches are gathered.
type stretch struct {
	what string
	at   unsafe.Pointer
	size uintptr
}

func (a stretch) from() uintptr { return uintptr(a.at) }
func (a stretch) to() uintptr   { return uintptr(a.at) + a.size }

func ofText(what, s string) stretch {
	return stretch{what, unsafe.Pointer(unsafe.StringData(s)), uintptr(len(s))}
}

func ofTables(what string, l []api.Table) []stretch {
	all := []stretch{{what, unsafe.Pointer(unsafe.SliceData(l)), uintptr(cap(l)) * unsafe.Sizeof(api.Table{})}}
	for _, x := range l {
		all = append(all, ofText(what+"'s tag "+x.Tag, x.Tag), ofText(what+"'s data of "+x.Tag, x.Data))
	}
	return all
}

func apart(t *testing.T, l []stretch) {
	t.Helper()
	for i, a := range l {
		for _, b := range l[:i] {
			if max(a.from(), b.from()) < min(a.to(), b.to()) {
				t.Errorf("%s and %s share memory", a.what, b.what)
			}
		}
	}
}

func TestAnswersAreNewMemory(t *testing.T) {
	given := tables(table(strings.Clone("zzzz"), strings.Repeat("z", 100)), table(strings.Clone("aaaa"), strings.Clone("a")), table(strings.Clone("head"), strings.Repeat("h", 54)), table(strings.Clone("none"), ""))
	first, _ := Build(given)
	second, _ := Build(given)
	all := append(ofTables("the list", given), ofText("the first file", first), ofText("the second file", second))
	once, _ := Read(first)
	again, _ := Read(first)
	all = append(append(all, ofTables("one answer", once)...), ofTables("the next", again)...)
	for i := range 2 {
		for _, tag := range []string{"zzzz", "aaaa", "head", "none"} {
			data, ok := Find(given, tag)
			if !ok {
				t.Errorf("no %s", tag)
			}
			all = append(all, ofText(fmt.Sprint("what is found of ", tag, ", time ", i), data))
		}
	}
	apart(t, all)
	want := slices.Clone(again)
	clear(once[:cap(once)])
	if last, err := Read(first); err != api.OK || !same(last, want) || !same(again, want) {
		t.Error("an answer that was changed changed another")
	}
}

func TestAnswersHangOnTheArgumentsAlone(t *testing.T) {
	l := tables(table("zzzz", "1"), table("head", "0123456789ab"), table("aaaa", "22222"))
	want, _ := modelBuild(l)
	for range 3 {
		if s, err := Build(l); s != want || err != api.OK {
			t.Errorf("%+q, %v", s, err)
		}
		alike(t, want)
		Build(many(33))
		Build(many(32))
		Read(want[:40])
		Whole(want + "a")
		Sum("abcde")
	}
}
