package pdfin

import (
	"fmt"
	"math"
	"slices"
	"strconv"
	"strings"
	"testing"
	"unsafe"

	"colophon/api"
	"colophon/pdfout"
)

const null = "1 0 obj null endobj\n"

var nullFile = api.File{Entries: []api.Entry{{}}, Root: 1}

// with is a file of one null, something of it set otherwise.
func with(change func(d *draft)) string {
	d := drawn(1, null)
	change(&d)
	return d.text()
}

// Point 1.

func TestHeader(t *testing.T) {
	const header = "%PDF-1.7\n%\xe2\xe3\xcf\xd3\n"
	for i := range header {
		for c := range 256 {
			s := with(func(d *draft) { d.header = header[:i] + string([]byte{byte(c)}) + header[i+1:] })
			if well := byte(c) == header[i] || i >= 10 && i < 14 && c >= 128; well {
				right(t, s, nullFile)
			} else {
				wrong(t, "a byte of the header", s)
			}
		}
		wrong(t, "a byte less", with(func(d *draft) { d.header = header[:i] + header[i+1:] }))
		wrong(t, "a byte more", with(func(d *draft) { d.header = header[:i] + "\xe2" + header[i:] }))
	}
	for _, h := range []string{"", "%PDF-1.7\n", "%PDF-1.7\n%\n", "%PDF-1.7\n%\xe2\xe3\xcf\n", "%PDF-1.7\n%\xe2\xe3\xcf\xd3", "%PDF-1.4\n%\xe2\xe3\xcf\xd3\n", "%PDF-1.7\r\n%\xe2\xe3\xcf\xd3\n", header + " ", header + "\n", " " + header, header + header} {
		wrong(t, "another header", with(func(d *draft) { d.header = h }))
	}
}

// Point 2.

func TestEnd(t *testing.T) {
	for _, table := range []string{"", "0", "035", "0035", "34", "36", "-35", "+35", "35 ", " 35", "3_5", "0x23", "35.", "99999999999999999999", "18446744073709551651", "4294967331", "35\n35"} {
		wrong(t, "another place", with(func(d *draft) { d.table = func(int) string { return table } }))
	}
	for _, begins := range []string{"", "startxref", "startxref ", "startxref\r\n", "startxref\n\n", "\nstartxref\n", " startxref\n", "Startxref\n", "tartxref\n", "xref\n", "startxref\n0"} {
		wrong(t, "another beginning of the end", with(func(d *draft) { d.begins = begins }))
	}
	for _, ends := range []string{"", "\n%%EOF", "%%EOF\n", "\n\n%%EOF\n", "\n%%EOF\n\n", "\n%%EOF\n ", "\n%%EOF\r\n", "\n%EOF\n", "\n%%eof\n", "\n%%EOF\n%%EOF\n", " \n%%EOF\n"} {
		wrong(t, "another end", with(func(d *draft) { d.ends = ends }))
	}
	s := with(func(d *draft) {})
	right(t, s, nullFile)
	for i := range s {
		wrong(t, "only the beginning", s[:i])
		if i > 0 {
			wrong(t, "only the end", s[i:])
		}
	}
	wrong(t, "twice", s+s)
	wrong(t, "two ends", s+"startxref\n35\n%%EOF\n")
}

func TestStart(t *testing.T) {
	good := one(null)
	for s, want := range map[string]int{
		good: 35, "startxref\n0\n%%EOF\n": 0, "xstartxref\n5\n%%EOF\n": 5, "startxref\n9\n%%EOF\n": 9,
		"startxref\n19\n%%EOF\n": 19, "startxref\n18\n%%EOF\n": 18, "startxref\n1\n%%EOF\n": 1, good[:20] + "startxref\n39\n%%EOF\n": 39, good[:20] + "startxref\n38\n%%EOF\n": 38,
		"%%EOF\nstartxref\n7\n%%EOF\nstartxref\n8\n%%EOF\n": 8, "startxref\n01\n%%EOF\nstartxref\n2\n%%EOF\n": 2, "\x00\xff9startxref\n3\n%%EOF\n": 3, strings.Repeat("a", 1000) + "startxref\n1000\n%%EOF\n": 1000,
	} {
		if d, err := Start(s); d != want || err != api.OK {
			t.Errorf("Start(%q): %d, %v; asked: %d", s, d, err, want)
		}
	}
	for _, s := range []string{
		"", "\n", "\n%%EOF\n", "5\n%%EOF\n", "\n5\n%%EOF\n", "startxref\n\n%%EOF\n", "startxref\n00\n%%EOF\n", "startxref\n01\n%%EOF\n", "startxref\n010\n%%EOF\n", "startxref\n-1\n%%EOF\n", "startxref\n+1\n%%EOF\n", "startxref\n-0\n%%EOF\n",
		"startxref\n20\n%%EOF\n", "startxref\n99\n%%EOF\n", "startxref\n9223372036854775807\n%%EOF\n", "startxref\n9223372036854775808\n%%EOF\n", "startxref\n18446744073709551616\n%%EOF\n", "startxref\n18446744073709551621\n%%EOF\n", "startxref\n" + strings.Repeat("1", 1000) + "\n%%EOF\n",
		good[:20] + "startxref\n40\n%%EOF\n", "startxref\n5\n%%EOF", "startxref\n5\n%%EOF\n\n", "startxref\n5\n%%EOF\n ", "startxref 5\n%%EOF\n", "startxref\n5 \n%%EOF\n", "startxref\n 5\n%%EOF\n", "startxref\n5\n%%EOG\n", "startxref\n5\r\n%%EOF\n", "startxref\r\n5\n%%EOF\n", "tartxref\n5\n%%EOF\n", "startxref5\n%%EOF\n", "STARTXREF\n5\n%%EOF\n", "startxref\n5a\n%%EOF\n", "startxref\na5\n%%EOF\n", "startxref\n5\n%%EOF\nstartxref\n", "startxref\n٣\n%%EOF\n",
	} {
		if d, err := Start(s); d != 0 || err != api.ErrFile {
			t.Errorf("Start(%q): %d, %v; asked: ErrFile", s, d, err)
		}
	}
}

// Start looks at the end alone.
func TestStartOfWhatIsNoRightFile(t *testing.T) {
	for _, s := range []string{
		one("1 0 obj nul endobj\n"), one(null + " "), with(func(d *draft) { d.header = "abcdefghijklmno" }), with(func(d *draft) { d.size = "0" }), with(func(d *draft) { d.trailer = "" }),
		with(func(d *draft) { d.places = func(int, int) string { return "" } }), with(func(d *draft) { d.header = strings.Repeat("%", 15) }),
	} {
		wrong(t, "no right file", s)
		at, _ := strconv.Atoi(strings.Split(s, "\n")[strings.Count(s, "\n")-2])
		if d, err := Start(s); d != at || err != api.OK || at < 15 {
			t.Errorf("Start(%q): %d, %v; asked: %d", s, d, err, at)
		}
	}
}

// Point 3.

// nulls are the texts of so many objects.
func nulls(n int) []string {
	var l []string
	for k := range n {
		l = append(l, strconv.Itoa(k+1)+" 0 obj null endobj\n")
	}
	return l
}

func TestSizeOfTheTable(t *testing.T) {
	for _, n := range []int{1, 2, 9, 10, 99, 4095, 4096} {
		right(t, drawn(1, nulls(n)...).text(), file(1, make([]api.Entry, n)...))
		right(t, drawn(n, nulls(n)...).text(), file(n, make([]api.Entry, n)...))
		wrong(t, "Root of the size", drawn(n+1, nulls(n)...).text())
		for _, other := range []int{n - 1, n, n + 2, 0, 4097, 4098} {
			if d := drawn(1, nulls(n)...); other != n+1 {
				d.size = strconv.Itoa(other)
				wrong(t, "another size", d.text())
				d.trailer = fmt.Sprintf("trailer\n<</Size %d /Root 1 0 R>>\n", other)
				wrong(t, "another size, twice", d.text())
			}
		}
	}
	for _, n := range []int{4097, 4098, 5000} {
		wrong(t, "too many", drawn(1, nulls(n)...).text())
	}
	none := drawn(1)
	wrong(t, "no object", none.text())
	none.trailer = "trailer\n<</Size 1/Root 1 0 R>>\n"
	wrong(t, "no object", none.text())
	for _, size := range []string{"", "02", "002", "+2", "-2", "2 ", " 2", "2.0", "18446744073709551618", "4294967298", "02\n0 2"} {
		wrong(t, "a size in other words", with(func(d *draft) { d.size = size }))
	}
}

func TestRowsOfTheTable(t *testing.T) {
	for _, rows := range []string{"0000000015 00000 n \n", "0000000035 00000 n \n", "0000000000 65535 f \n", "\n", " ", "0000000015 00000 f \n"} {
		wrong(t, "a row too many", with(func(d *draft) { d.rows = rows }))
	}
	short := with(func(d *draft) {})
	short = strings.Replace(short, "0000000015 00000 n \n", "", 1)
	wrong(t, "a row too few", short)
	wrong(t, "no row", strings.Replace(short, "0 2\n", "0 1\n", 1))
	for _, first := range []string{"", "\n", "\n0000000000 65535 n \n", "\n0000000000 00000 f \n", "\n0000000001 65535 f \n", "\n0000000000 65535 f\r\n", "\n000000000 65535 f \n", " \n0000000000 65535 f \n", "\n0000000000 65535 f \n\n"} {
		wrong(t, "another first row", with(func(d *draft) { d.first = first }))
	}
	for _, place := range []string{
		"", "15", "000000015", "00000000015", "         15", "+000000015", "-000000015", "0x0000000f", "0000000_15", "000000001a", "0000000015 ", " 0000000015",
		"0000000000", "0000000001", "0000000014", "0000000016", "0000000035", "0000000151", "0000016777", "0016777216", "0016777217", "2147483648", "4294967311", "9999999999",
	} {
		wrong(t, "another place", with(func(d *draft) { d.places = func(int, int) string { return place } }))
	}
	good := one(null)
	for _, row := range []string{"0000000015 00000 n\n", "0000000015 00000 n\r\n", "0000000015 00000 n \r", "0000000015 00001 n \n", "0000000015 00000 f \n", "0000000015 0000 n \n", "0000000015  00000 n \n", "0000000015 00000 N \n"} {
		wrong(t, "another row", strings.Replace(good, "0000000015 00000 n \n", row, 1))
	}
	for _, x := range []string{"xref\n1 ", "xref\n0  ", "xref\n 0 ", "xref 0 ", "xref\r\n0 ", "XREF\n0 ", "xref\n00 ", "xref\n\n0 ", "xref\n0\n", "xref\n0"} {
		wrong(t, "another beginning", strings.Replace(good, "xref\n0 ", x, 1))
	}
	two := drawn(1, nulls(2)...)
	wrong(t, "two parts", strings.Replace(two.text(), "0000000035 00000 n \n", "2 1\n0000000035 00000 n \n", 1))
}

func TestTrailer(t *testing.T) {
	set := func(trailer string) string { return with(func(d *draft) { d.trailer = trailer }) }
	for _, o := range []string{
		"<</Size 2 /Root 1 0 R>>", "<</Root 1 0 R/Size 2>>", "<</Root 1 0 R /Size 2>>", "<<\n/Size\t2\r/Root\f1  0\nR >>", "<</S#69ze 2/#52oot 1 0 R>>",
	} {
		right(t, set("trailer\n"+o+"\n"), nullFile)
		for _, c := range []string{" ", "\n", "\t", "\f", "\r", "\n\n", "\x00", "%a\n", "0 ", "0"} {
			wrong(t, "something ahead", set("trailer\n"+c+o+"\n"))
			wrong(t, "something behind", set("trailer\n"+o+c+"\n"))
			wrong(t, "something behind that", set("trailer\n"+o+"\n"+c))
			wrong(t, "something ahead of all", set(c+"trailer\n"+o+"\n"))
		}
		for _, x := range []string{"", "trailer", "trailer ", "trailer\r\n", "Trailer\n", "railer\n", "trailer\r"} {
			wrong(t, "another word", set(x+o+"\n"))
		}
		wrong(t, "nothing behind", set("trailer\n"+o))
		wrong(t, "another byte behind", set("trailer\n"+o+"\r"))
	}
	for _, o := range []string{
		"", "null", "2", "1 0 R", "(a)", "/Size", "[]", "[/Size 2 /Root 1 0 R]", "<<>>", "<</Size 2>>", "<</Root 1 0 R>>", "<</Size 2/Root 1 0 R/A 1>>", "<</A 1/Size 2/Root 1 0 R>>", "<</Size 2/A null/Root 1 0 R>>",
		"<</Size 2/Size 2>>", "<</Size 2/Size 2/Root 1 0 R>>", "<</Root 1 0 R/Root 1 0 R>>", "<</Size 2/root 1 0 R>>", "<</size 2/Root 1 0 R>>", "<</Size 2/Info 1 0 R>>", "<</A 2/B 1 0 R>>", "<</Size 2/Root 1 0 R",
		"<</Size 1/Root 1 0 R>>", "<</Size 3/Root 1 0 R>>", "<</Size 0/Root 1 0 R>>", "<</Size -2/Root 1 0 R>>", "<</Size 2.5/Root 1 0 R>>", "<</Size 02/Root 1 0 R>>", "<</Size (2)/Root 1 0 R>>", "<</Size /2/Root 1 0 R>>", "<</Size 2 0 R/Root 1 0 R>>", "<</Size null/Root 1 0 R>>", "<</Size [2]/Root 1 0 R>>",
		"<</Size 2/Root 0 0 R>>", "<</Size 2/Root 2 0 R>>", "<</Size 2/Root 3 0 R>>", "<</Size 2/Root 4096 0 R>>", "<</Size 2/Root 4097 0 R>>", "<</Size 2/Root -1 0 R>>", "<</Size 2/Root 1>>", "<</Size 2/Root 1 1 R>>", "<</Size 2/Root 1 0 r>>", "<</Size 2/Root /1>>", "<</Size 2/Root null>>", "<</Size 2/Root [1 0 R]>>", "<</Size 2/Root <<>>>>", "<</Size .00003/Root 1 0 R>>",
	} {
		wrong(t, "another object", set("trailer\n"+o+"\n"))
	}
}

func TestRoots(t *testing.T) {
	for root := range 13 {
		s := drawn(root, nulls(11)...).text()
		if root >= 1 && root <= 11 {
			right(t, s, file(root, make([]api.Entry, 11)...))
		} else {
			wrong(t, "a root that is none of them", s)
		}
	}
}

// Point 4.

func TestNumbersOfObjects(t *testing.T) {
	for _, number := range []string{"", "0", "01", "001", "2", "11", "+1", "-1", " 1", "1 ", "1.", "a", "18446744073709551617", "4294967297", "99999999999999999999"} {
		wrong(t, "another number", one(number+null[1:]))
	}
	for _, x := range []string{"1 0 obj", "1 0 ob", "1 0 OBJ", "1  0 obj", "1 00 obj", "1 1 obj", "10 obj", "1 0obj", "1\n0 obj", "1 0\nobj", "1 0 objx", "1 0 obj1", "1 obj", "1 0"} {
		s := one(x + " null endobj\n")
		if x == "1 0 obj" {
			right(t, s, nullFile)
		} else {
			wrong(t, "other words ahead", s)
		}
	}
	two := drawn(1, "2 0 obj null endobj\n", "1 0 obj null endobj\n")
	wrong(t, "numbers that are each other's", two.text())
	same := drawn(1, "1 0 obj null endobj\n", "1 0 obj null endobj\n")
	wrong(t, "a number twice", same.text())
	gap := drawn(1, "1 0 obj null endobj\n", "3 0 obj null endobj\n")
	wrong(t, "a number too great", gap.text())
}

// gaps are blanks, and what is none.
func gaps() (well, not []string) {
	for c := range 256 {
		if s := string([]byte{byte(c)}); strings.Contains("\t\n\f\r ", s) {
			well = append(well, s, s+s, " "+s, s+"\n", strings.Repeat(s, 1000))
		} else {
			not = append(not, s, " "+s, s+" ", "\n"+s+"\n")
		}
	}
	return append(well, "\t\n\f\r "), append(not, "", "%a\n", " %\n", "\x00", "\u00a0", "\v")
}

func TestBlanks(t *testing.T) {
	well, not := gaps()
	for form, want := range map[string]api.Obj{
		"1 0 obj%snull endobj\n": zero, "1 0 obj null%sendobj\n": zero, "1 0 obj%s<<>> endobj\n": dict(), "1 0 obj <<>>%sendobj\n": dict(), "1 0 obj%s(a) endobj\n": text("a"), "1 0 obj (a)%sendobj\n": text("a"),
	} {
		for _, blank := range well {
			right(t, one(strings.Replace(form, "%s", blank, 1)), alone(plain(want)))
		}
		for _, other := range not {
			// A blank and a byte with which another object begins are no fault.
			if s := one(strings.Replace(form, "%s", other, 1)); !strings.HasPrefix(other, " ") {
				wrong(t, "no blank", s)
			} else {
				alike(t, s)
			}
		}
	}
	for _, form := range []string{"1 0 obj%s<</Length 2>> stream\nab\nendstream endobj\n", "1 0 obj <</Length 2>>%sstream\nab\nendstream endobj\n", "1 0 obj <</Length 2>> stream\nab\nendstream%sendobj\n"} {
		for _, blank := range well {
			right(t, one(strings.Replace(form, "%s", blank, 1)), alone(stream(dict(), "ab")))
		}
		for _, other := range not {
			wrong(t, "no blank", one(strings.Replace(form, "%s", other, 1)))
		}
	}
}

func TestWordsOfAnEntry(t *testing.T) {
	for _, end := range []string{"", "endobj", "endobj ", "endobj \n", "endobj\r\n", "endobj\n\n", "endobj\n ", "ENDOBJ\n", "endobjx\n", "xendobj\n", "end obj\n", "ndobj\n", "endstream endobj\n", "null endobj\n", "stream\nendobj\n"} {
		wrong(t, "another end", one("1 0 obj null "+end))
		wrong(t, "another end of a stream", one("1 0 obj <</Length 2>> stream\nab\nendstream "+end))
	}
	for _, word := range []string{"stream", "stream ", "stream\r\n", "stream\r", "Stream\n", "stream\n\n", "tream\n", "streamx\n", "stream \n", "stream\nstream\n", "endobj\nstream\n"} {
		wrong(t, "another word", one("1 0 obj <</Length 2>> "+word+"ab\nendstream endobj\n"))
	}
	for _, end := range []string{"endstream", " endstream", "\r\nendstream", "\rendstream", "\n\nendstream", "\n endstream", "\nENDSTREAM", "\nendstrea", "\nendstreamx", "\nendstream\nendstream", "", "\n"} {
		wrong(t, "another end of the bytes", one("1 0 obj <</Length 2>> stream\nab"+end+" endobj\n"))
	}
}

func TestObjectsThatAreNone(t *testing.T) {
	for _, o := range []string{
		"", "nul", "nulll", "Null", "1 2", "1.50", "+1", "-0", "007", "/", "(a", "a)", "<a>", "<</A 1/A 2>>", "]", "[", "<<", "<</A>>", "0 0 R", "4097 0 R", "1 0 R R", "null null", "1 0 R 1 0 R", "%a\nnull", "{}", "1099511627777", "/" + strings.Repeat("a", 128),
		strings.Repeat("[", 33) + strings.Repeat("]", 33), "[" + strings.Repeat("1 ", 65536) + "]", "(" + strings.Repeat("a", 65537) + ")", "1 0 obj null endobj\n", "endobj", "stream", "<<>> <<>>",
	} {
		wrong(t, "no good object", one("1 0 obj "+o+" endobj\n"))
	}
	for _, o := range []string{strings.Repeat("[", 32) + strings.Repeat("]", 32), "[" + strings.Repeat("1 ", 65535) + "]", "(" + strings.Repeat("a", 65536) + ")", "/" + strings.Repeat("a", 127), "1099511627776", "4096 0 R", "0.5"} {
		if !alike(t, one("1 0 obj "+o+" endobj\n")) {
			t.Errorf("%s is refused", tell(o))
		}
	}
	// A Body may be good though Print would answer ErrLong: its text is longer
	// than what is written, and only then.
	long := "[" + strings.Repeat("("+strings.Repeat("a", 65536)+")", 17) + "]"
	f, err := Read(one("1 0 obj " + long + " endobj\n"))
	if err != api.OK || len(f.Entries) != 1 || len(f.Entries[0].Body.Items) != 17 {
		t.Errorf("a long object: %v", err)
	}
	if _, err := pdfout.Write(f); err != api.ErrLong {
		t.Errorf("a long object, written: %v", err)
	}
}

func TestLengths(t *testing.T) {
	for _, o := range []string{
		"<<>>", "<</length 2>>", "<</A 2>>", "<</Length1 2>>", "<</A <</Length 2>>>>", "<</Length (2)>>", "<</Length /2>>", "<</Length null>>", "<</Length 2 0 R>>", "<</Length 1 0 R>>", "<</Length 2.5>>", "<</Length true>>", "<</Length [2]>>", "<</Length 2/Length 2>>", "<</Length 0.00003>>",
		"<</Length -1>>", "<</Length -2>>", "<</Length -40>>", "<</Length 0>>", "<</Length 1>>", "<</Length 3>>", "<</Length 4>>", "<</Length 20>>", "<</Length 100>>", "<</Length 1000>>", "<</Length 16777216>>", "<</Length 1099511627776>>", "<</Length -1099511627776>>", "<</Length 02>>", "<</Length +2>>",
		"null", "2", "(a)", "/Length", "[/Length 2]", "[]", "true", "1 0 R", "0.5", "<03>",
	} {
		wrong(t, "no right Length", one("1 0 obj "+o+" stream\nab\nendstream endobj\n"))
	}
	for l := range 200 {
		alike(t, one(fmt.Sprintf("1 0 obj <</Length %d>> stream\na\nendstream endobj\n2 0 obj (\nendstream endobj\n", l)))
	}
	// The bytes may look like the end; Length alone says where they end.
	data := "a\nendstream endobj\nb\nendstream endobj\nc"
	for l := range 60 {
		s := one(fmt.Sprintf("1 0 obj <</Length %d>> stream\n%s\nendstream endobj\n", l, data))
		if alike(t, s) != (l == len(data)) {
			t.Errorf("Length %d of %d", l, len(data))
		}
	}
}

// Point 5.

func TestObjectsInAnyOrder(t *testing.T) {
	objects := []string{"1 0 obj /a endobj\n", "2 0 obj <</Length 1>> stream\nb\nendstream endobj\n", "3 0 obj (c) endobj\n", "4 0 obj 44 endobj\n"}
	want := file(3, plain(name("a")), stream(dict(), "b"), plain(text("c")), plain(integer(44)))
	var orders func(taken []int)
	count := 0
	orders = func(taken []int) {
		if len(taken) == 4 {
			d := drawn(3, objects...)
			d.order = taken
			right(t, d.text(), want)
			count++
		}
		for k := 1; k <= 4; k++ {
			if !slices.Contains(taken, k) {
				orders(append(slices.Clone(taken), k))
			}
		}
	}
	orders(nil)
	if count != 24 {
		t.Errorf("%d orders", count)
	}
	d := drawn(1, nulls(4096)...)
	for k := 4096; k >= 1; k-- {
		d.order = append(d.order, k)
	}
	right(t, d.text(), file(1, make([]api.Entry, 4096)...))
}

func TestStretchesThatDoNotCover(t *testing.T) {
	two := drawn(1, nulls(2)...)
	right(t, two.text(), file(1, make([]api.Entry, 2)...))
	for _, gap := range []string{" ", "\n", "%", "0", "1", "1 0 obj null endobj\n", "3 0 obj null endobj\n", "x"} {
		for i := range 2 {
			d := drawn(1, nulls(2)...)
			d.objects[i] += gap
			wrong(t, "a gap behind", d.text())
			d = drawn(1, nulls(2)...)
			d.objects[i] = gap + d.objects[i]
			wrong(t, "a gap ahead", d.text())
			d.places = func(k, at int) string {
				if k == i+1 {
					at += len(gap)
				}
				return fmt.Sprintf("%010d", at)
			}
			wrong(t, "a gap ahead that the table leaves out", d.text())
		}
		d := drawn(1, nulls(2)...)
		d.header += gap
		wrong(t, "a gap behind the header", d.text())
	}
	for _, at := range []string{"0000000015", "0000000035"} {
		d := drawn(1, nulls(2)...)
		d.places = func(int, int) string { return at }
		wrong(t, "two places that are the same", d.text())
	}
	d := drawn(1, nulls(2)...)
	d.places = func(k, at int) string { return fmt.Sprintf("%010d", 50-at) }
	wrong(t, "two places that are each other's", d.text())
	d = drawn(1, nulls(2)...)
	d.order = []int{1}
	d.places = func(int, int) string { return "0000000015" }
	wrong(t, "one stretch for two numbers", d.text())
}

// One stretch may lie in another's string or bytes: then its bytes are covered
// twice, though each by itself is as it should be.
func TestStretchesInOneAnother(t *testing.T) {
	for _, outer := range []string{"1 0 obj (a%sb) endobj\n", "1 0 obj (%s) endobj\n", "1 0 obj <</Length 20>> stream\n%s\nendstream endobj\n"} {
		object := strings.Replace(outer, "%s", "2 0 obj null endobj\n", 1)
		at := fmt.Sprintf("%010d", 15+strings.Index(outer, "%s"))
		if !alike(t, one(object)) {
			t.Errorf("%q is refused", object)
		}
		d := drawn(1, object, "2 0 obj null endobj\n")
		right(t, d.text(), file(1, mustRead(t, one(object)).Entries[0], plain(zero)))
		d.order = []int{1}
		d.places = func(k, place int) string {
			if k == 2 {
				return at
			}
			return fmt.Sprintf("%010d", place)
		}
		wrong(t, "a stretch in another", d.text())
		d.order = nil
		wrong(t, "a stretch in another, its own left out", d.text())
	}
	// The outer one alone would leave nothing out; the table names the inner.
	d := drawn(1, "2 0 obj (1 0 obj null endobj\n) endobj\n")
	d.places = func(int, int) string { return "0000000024" }
	wrong(t, "the inner one alone", d.text())
}

func mustRead(t *testing.T, s string) api.File {
	t.Helper()
	f, err := Read(s)
	if err != api.OK {
		t.Fatalf("%s: %v", tell(s), err)
	}
	return f
}

// Limits.

func TestAFileAtTheLongest(t *testing.T) {
	sized := func(bytes int) string {
		form := func(n int) string {
			return one(fmt.Sprintf("1 0 obj <</Length %d>> stream\n%s\nendstream endobj\n", n, strings.Repeat("a", n)))
		}
		const about = 16000000
		return form(about + bytes - len(form(about)))
	}
	for _, less := range []int{0, 1} {
		s := sized(api.MaxFile - less)
		f, err := Read(s)
		if len(s) != api.MaxFile-less || err != api.OK || len(f.Entries) != 1 || !f.Entries[0].Stream || len(f.Entries[0].Data) < 16000000 {
			t.Errorf("%d less than MaxFile: %d bytes, %v", less, len(s), err)
		}
		if d, err := Start(s); err != api.OK || s[d:d+5] != "xref\n" {
			t.Errorf("%d less than MaxFile: Start is %d, %v", less, d, err)
		}
		if f, err := Read(s[1:]); err != api.ErrFile || len(f.Entries) != 0 {
			t.Errorf("without its first byte: %v", err)
		}
	}
	for _, s := range []string{sized(api.MaxFile + 1), strings.Repeat("a", api.MaxFile+1), sized(api.MaxFile) + "\n", strings.Repeat("\n", 2*api.MaxFile)} {
		f, err := Read(s)
		d, also := Start(s)
		if err != api.ErrLong || also != api.ErrLong || d != 0 || f.Root != 0 || len(f.Entries) != 0 {
			t.Errorf("%d bytes: %v, %v, %d", len(s), err, also, d)
		}
	}
	s := strings.Repeat("a", api.MaxFile)
	if _, err := Read(s); err != api.ErrFile {
		t.Errorf("MaxFile bytes of nothing: %v", err)
	}
	if _, err := Start(s); err != api.ErrFile {
		t.Errorf("MaxFile bytes of nothing: %v", err)
	}
}

// Each of 4096 rows may name one place with a long object: it is read once.
func TestManyPlacesOfOneLongObject(t *testing.T) {
	d := drawn(1, nulls(4096)...)
	d.objects[0] = "1 0 obj [" + strings.Repeat(" ", 16000000) + "] endobj\n"
	d.places = func(int, int) string { return "0000000015" }
	if _, err := Read(d.text()); err != api.ErrFile {
		t.Errorf("%v", err)
	}
}

// P7.3, and every other byte.

// samples are right files of several makes.
func samples() []string {
	d := drawn(2, "1 0 obj /a endobj\n", "2 0 obj <</Length 3/A(x)>> stream\nabc\nendstream endobj\n", "3 0 obj [1 0 R]\tendobj\n")
	d.order = []int{3, 1, 2}
	d.trailer = "trailer\n<</Root 2 0 R/Size 4>>\n"
	plain, _ := pdfout.Write(nullFile)
	both, _ := pdfout.Write(file(1, stream(dict("A", zero), "1 0 o"), api.Entry{}))
	ten := drawn(10, nulls(11)...).text()
	return []string{one(null), plain, both, d.text(), ten}
}

func TestTurnedBytesOfTheWords(t *testing.T) {
	for _, s := range samples() {
		for _, word := range []string{"xref", "trailer", "startxref", "%%EOF", "obj", "endobj"} {
			count := 0
			for at := range s {
				if !strings.HasPrefix(s[at:], word) {
					continue
				}
				count++
				for i := range word {
					for c := range 256 {
						if turned := s[:at+i] + string([]byte{byte(c)}) + s[at+i+1:]; turned != s {
							wrong(t, "a byte of "+word, turned)
						}
					}
				}
			}
			if count == 0 {
				t.Errorf("%q has no %s", s, word)
			}
		}
	}
}

func TestEachByteTurnedLeftOutAndPutIn(t *testing.T) {
	const some = "\x00\t\n\f\r 0123459%()/<>[]aefjnorstx\x7f\x80\xff"
	for _, s := range samples() {
		if !alike(t, s) {
			t.Errorf("%q is refused", s)
		}
		for i := range s {
			alike(t, s[:i]+s[i+1:])
			for j := range some {
				alike(t, s[:i]+some[j:j+1]+s[i+1:])
				alike(t, s[:i]+some[j:j+1]+s[i:])
			}
		}
	}
}

// Files put together of pieces that fit and of some that do not.
func TestManyFiles(t *testing.T) {
	objects := []string{
		"1 0 obj null endobj\n", "2 0 obj null endobj\n", "3 0 obj (1 0 obj null endobj\n) endobj\n", "1 0 obj (2 0 obj null endobj\n) endobj\n", "2 0 obj <</Length 20>> stream\n1 0 obj null endobj\n\nendstream endobj\n", "3 0 obj 3 endobj\n",
		"2 0 obj <</Length 1>> stream\na\nendstream endobj\n", "1 0 obj <</A 1/Length 0/B 2>> stream\n\nendstream\nendobj\n", "3 0 obj <</Length 3>> endobj\n", "1 0 obj 1 0 R endobj\n",
	}
	taken, refused := 0, 0
	for seed := range 20000 {
		next := numbers(seed)
		var l []string
		for k := range 1 + next(3) {
			o := objects[next(len(objects))]
			for o[0] != byte('1'+k) && next(6) > 0 {
				o = objects[next(len(objects))]
			}
			l = append(l, o)
		}
		d := drawn(1+next(len(l)), l...)
		for k := range l {
			d.order = slices.Insert(d.order, next(k+1), k+1)
		}
		if odd := next(8); odd < 2 {
			d.places = func(k, at int) string { return fmt.Sprintf("%010d", at+next(3)*next(25)) }
		} else if odd == 2 {
			d.size = strconv.Itoa(len(l) + next(3))
		}
		if alike(t, d.text()) {
			taken++
		} else {
			refused++
		}
	}
	if taken < 2000 || refused < 2000 {
		t.Errorf("%d taken, %d refused: too few of one kind", taken, refused)
	}
}

// What is told is new memory.

// stretches are the memory that a file's lists and texts take, spare room too.
func stretches(f api.File) [][2]uintptr {
	var l [][2]uintptr
	add := func(at unsafe.Pointer, bytes int) {
		if bytes > 0 {
			l = append(l, [2]uintptr{uintptr(at), uintptr(at) + uintptr(bytes)})
		}
	}
	var walk func(o api.Obj)
	walk = func(o api.Obj) {
		add(unsafe.Pointer(unsafe.SliceData(o.Keys)), cap(o.Keys)*int(unsafe.Sizeof("")))
		add(unsafe.Pointer(unsafe.SliceData(o.Items)), cap(o.Items)*int(unsafe.Sizeof(api.Obj{})))
		for _, item := range o.Items {
			walk(item)
		}
	}
	add(unsafe.Pointer(unsafe.SliceData(f.Entries)), cap(f.Entries)*int(unsafe.Sizeof(api.Entry{})))
	for _, e := range f.Entries {
		walk(e.Body)
	}
	return l
}

func textsOf(f api.File) []string {
	var l []string
	var walk func(o api.Obj)
	walk = func(o api.Obj) {
		l = append(append(l, o.Text), o.Keys...)
		for _, item := range o.Items {
			walk(item)
		}
	}
	for _, e := range f.Entries {
		l = append(l, e.Data)
		walk(e.Body)
	}
	return l
}

func TestAnswersAreNewMemory(t *testing.T) {
	s := drawn(2, "1 0 obj <</Keys [/abc (defg) [1 2 3]]/Other <</A/bcd>>>> endobj\n", "2 0 obj <</First [1 2]/Length 6/Last <</B [(xyz)]>>>> stream\nabcdef\nendstream endobj\n").text()
	first, second := mustRead(t, s), mustRead(t, s)
	l := slices.Concat(stretches(first), stretches(second))
	slices.SortFunc(l, func(a, b [2]uintptr) int { return int(a[0]>>1) - int(b[0]>>1) })
	for i := 1; i < len(l); i++ {
		if l[i][0] < l[i-1][1] {
			t.Errorf("two lists share memory: %x", l[i-1:i+1])
		}
	}
	from := uintptr(unsafe.Pointer(unsafe.StringData(s)))
	for _, x := range textsOf(first) {
		if at := uintptr(unsafe.Pointer(unsafe.StringData(x))); len(x) > 0 && at >= from && at < from+uintptr(len(s)) {
			t.Errorf("%q is a piece of what was handed in", x)
		}
	}
	want := mustRead(t, s)
	spoil(first)
	if !same(second, want) || !same(mustRead(t, s), want) {
		t.Errorf("an answer that was changed changed another")
	}
}

// spoil writes over all lists of an answer, their spare room too.
func spoil(f api.File) {
	var over func(o api.Obj)
	over = func(o api.Obj) {
		for _, item := range o.Items {
			over(item)
		}
		keys, items := o.Keys[:cap(o.Keys)], o.Items[:cap(o.Items)]
		for i := range keys {
			keys[i] = "spoiled"
		}
		for i := range items {
			items[i] = api.Obj{Kind: math.MaxInt, Text: "spoiled"}
		}
	}
	for _, e := range f.Entries {
		over(e.Body)
	}
	clear(f.Entries[:cap(f.Entries)])
}

// An answer hangs on the text alone.
func TestAnswersDoNotHangOnWhatWasCalledBefore(t *testing.T) {
	good, bad := one(null), one("1 0 obj nul endobj\n")
	for range 3 {
		right(t, good, nullFile)
		wrong(t, "no object", bad)
		if d, err := Start(good); d != 35 || err != api.OK {
			t.Errorf("Start: %d, %v", d, err)
		}
	}
}
