package sfnt

import (
	"encoding/binary"
	"fmt"
	"slices"
	"strings"
	"testing"

	"colophon/api"
)

// The chapter's words once more, point by point.

func two(x int) string  { return string(binary.BigEndian.AppendUint16(nil, uint16(x))) }
func four(x int) string { return string(binary.BigEndian.AppendUint32(nil, uint32(x))) }

// at2 and at4 are the numbers of two and four bytes at a place.
func at2(s string, at int) int { return int(binary.BigEndian.Uint16([]byte(s[at : at+2]))) }
func at4(s string, at int) int { return int(binary.BigEndian.Uint32([]byte(s[at : at+4]))) }

func filledUp(s string) string {
	for len(s)%4 != 0 {
		s += "\x00"
	}
	return s
}

func modelSum(s string) int {
	sum := 0
	for number := range slices.Chunk([]byte(filledUp(s)), 4) {
		sum = (sum + int(binary.BigEndian.Uint32(number))) % (1 << 32)
	}
	return sum
}

// tableSum is the sum that a table's row is to tell.
func tableSum(tag, data string) int {
	if tag == "head" && len(data) >= 12 {
		data = data[:8] + "\x00\x00\x00\x00" + data[12:]
	}
	return modelSum(data)
}

func isTag(s string) bool {
	return len(s) == 4 && strings.Trim(s, ` !"#$%&'()*+,-./0123456789:;<=>?@ABCDEFGHIJKLMNOPQRSTUVWXYZ[\]^_`+"`abcdefghijklmnopqrstuvwxyz{|}~") == ""
}

// searching are the three numbers that stand behind n.
func searching(n int) [3]int {
	p, q := 1, 0
	for 2*p <= n {
		p, q = 2*p, q+1
	}
	return [3]int{16 * p, q, 16 * (n - p)}
}

// modelDirectory tells n of the directory with which a file begins, or 0.
func modelDirectory(s string) int {
	if len(s) < 12 || s[:4] != "\x00\x01\x00\x00" {
		return 0
	}
	n := at2(s, 4)
	if n < 1 || n > 32 || searching(n) != [3]int{at2(s, 6), at2(s, 8), at2(s, 10)} || len(s) < 12+16*n {
		return 0
	}
	for i := range n {
		tag := s[12+16*i:][:4]
		if !isTag(tag) || i > 0 && tag <= s[12+16*i-16:][:4] {
			return 0
		}
	}
	return n
}

func modelRead(s string) ([]api.Table, api.Errno) {
	if len(s) > 1<<20 {
		return nil, api.ErrLong
	}
	n := modelDirectory(s)
	if n == 0 {
		return nil, api.ErrTable
	}
	covered := make([]bool, len(s))
	for i := range n {
		place, length := at4(s, 12+16*i+8), at4(s, 12+16*i+12)
		if place%4 != 0 || place < 12+16*n || place+length > len(s) {
			return nil, api.ErrTable
		}
		for j := range length {
			if covered[place+j] {
				return nil, api.ErrTable
			}
			covered[place+j] = true
		}
	}
	var l []api.Table
	for i := range n {
		tag, sum, place, length := s[12+16*i:][:4], at4(s, 12+16*i+4), at4(s, 12+16*i+8), at4(s, 12+16*i+12)
		data := s[place : place+length]
		if sum != tableSum(tag, data) {
			return nil, api.ErrSum
		}
		l = append(l, api.Table{Tag: tag, Data: data})
	}
	return l, api.OK
}

func modelWhole(s string) bool {
	if _, err := modelRead(s); err != api.OK {
		return false
	}
	for i := range at2(s, 4) {
		row := 12 + 16*i
		if place := at4(s, row+8); s[row:row+4] == "head" && at4(s, row+12) >= 12 {
			all := modelSum(s[:place+8] + "\x00\x00\x00\x00" + s[place+12:])
			return at4(s, place+8) == (0xb1b0afba-all+1<<32)%(1<<32)
		}
	}
	return false
}

// modelBuild lays a file out by a draft, and puts head's number in by trying the
// sum of the whole.
func modelBuild(l []api.Table) (string, api.Errno) {
	if len(l) < 1 || len(l) > 32 {
		return "", api.ErrTable
	}
	size := 12
	for i, t := range l {
		if !isTag(t.Tag) || slices.ContainsFunc(l[:i], func(x api.Table) bool { return x.Tag == t.Tag }) {
			return "", api.ErrTable
		}
		size += 16 + (len(t.Data)+3)&^3
	}
	if size > 1<<20 {
		return "", api.ErrLong
	}
	s := drawn(byTags(l)...).text()
	for i := range l {
		if row := 12 + 16*i; s[row:row+4] == "head" && at4(s, row+12) >= 12 {
			at := at4(s, row+8) + 8
			s = s[:at] + "\x00\x00\x00\x00" + s[at+4:]
			s = s[:at] + four(0xb1b0afba-modelSum(s)) + s[at+4:]
		}
	}
	return s, api.OK
}

func byTags(l []api.Table) []api.Table {
	return slices.SortedFunc(slices.Values(l), func(a, b api.Table) int { return strings.Compare(a.Tag, b.Tag) })
}

// draft is a file in its pieces, each of which may be set otherwise.
type draft struct {
	first  string
	n      int
	search [3]int
	rows   []draftRow
	bodies string
}

type draftRow struct {
	tag                string
	sum, place, length int
}

// drawn is a file of tables in the order in which they are handed in, one
// behind the other.
func drawn(l ...api.Table) draft {
	d := draft{first: "\x00\x01\x00\x00", n: len(l), search: searching(len(l))}
	for _, t := range l {
		d.rows = append(d.rows, draftRow{t.Tag, tableSum(t.Tag, t.Data), 12 + 16*len(l) + len(d.bodies), len(t.Data)})
		d.bodies += filledUp(t.Data)
	}
	return d
}

func (d draft) text() string {
	s := d.first + two(d.n) + two(d.search[0]) + two(d.search[1]) + two(d.search[2])
	for _, r := range d.rows {
		s += r.tag + four(r.sum) + four(r.place) + four(r.length)
	}
	return s + d.bodies
}

// resum sets all sums anew, as far as there are bytes to add up.
func (d draft) resum() draft {
	s := d.text()
	d.rows = slices.Clone(d.rows)
	for i, r := range d.rows {
		if r.place+r.length <= len(s) {
			d.rows[i].sum = tableSum(r.tag, s[r.place:r.place+r.length])
		}
	}
	return d
}

func table(tag, data string) api.Table      { return api.Table{Tag: tag, Data: data} }
func tables(l ...api.Table) []api.Table     { return l }
func same(a, b []api.Table) bool            { return slices.Equal(a, b) }
func turned(s string, at int, b int) string { return s[:at] + string([]byte{byte(b)}) + s[at+1:] }

// many are so many tables by rising tags, with some bytes each.
func many(n int) []api.Table {
	var l []api.Table
	for i := range n {
		l = append(l, table(fmt.Sprintf("t%03d", i), strings.Repeat(string(rune('a'+i%26)), i%7)))
	}
	return l
}

// tell is how something is shown: its beginning.
func tell(x any) string {
	s := fmt.Sprintf("%+q", x)
	return s[:min(len(s), 500)]
}

// right fails, unless a text is read as these tables.
func right(t *testing.T, what, s string, want ...api.Table) {
	t.Helper()
	if got, err := Read(s); err != api.OK || !same(got, want) {
		t.Errorf("%s: %s is read as %s, %v; asked: %s", what, tell(s), tell(got), err, tell(want))
	}
	if got, err := modelRead(s); err != api.OK || !same(got, want) {
		t.Errorf("%s: %s: this test's own reader takes it as %s, %v", what, tell(s), tell(got), err)
	}
}

// wrong fails, unless a text is refused with this error.
func wrong(t *testing.T, what, s string, want api.Errno) {
	t.Helper()
	if got, err := Read(s); err != want || len(got) != 0 {
		t.Errorf("%s: %s is read as %s, %v; asked: %v", what, tell(s), tell(got), err, want)
	}
	if _, err := modelRead(s); err != want {
		t.Errorf("%s: %s: this test's own reader answers %v", what, tell(s), err)
	}
	if Whole(s) {
		t.Errorf("%s: %s is whole", what, tell(s))
	}
}

// alike fails, unless a text is read and judged as by the test's own reader.
func alike(t *testing.T, s string) api.Errno {
	t.Helper()
	want, wantErr := modelRead(s)
	if got, err := Read(s); err != wantErr || !same(got, want) {
		t.Errorf("%s is read as %s, %v; asked: %s, %v", tell(s), tell(got), err, tell(want), wantErr)
	}
	if got := Whole(s); got != modelWhole(s) {
		t.Errorf("%s: Whole is %v", tell(s), got)
	}
	return wantErr
}

// built fails, unless a file is made of tables, or refused, as by the test's own
// builder, and is read back as P8.5 says.
func built(t *testing.T, l []api.Table) string {
	t.Helper()
	want, wantErr := modelBuild(l)
	s, err := Build(l)
	if s != want || err != wantErr {
		t.Fatalf("%s: %s, %v; asked: %s, %v", tell(l), tell(s), err, tell(want), wantErr)
	}
	if err != api.OK {
		return s
	}
	back, err := Read(s)
	if err != api.OK || !slices.EqualFunc(back, byTags(l), alikeButHead) {
		t.Errorf("%s comes back as %s, %v", tell(l), tell(back), err)
	}
	if again, err := Build(back); again != s || err != api.OK {
		t.Errorf("%s, built once more: %s, %v", tell(l), tell(again), err)
	}
	_, there := longHead(l)
	if Whole(s) != there {
		t.Errorf("%s: Whole is %v", tell(l), Whole(s))
	}
	return s
}

// alikeButHead holds two tables against each other, but for the number in head.
func alikeButHead(a, b api.Table) bool {
	if a.Tag == "head" && b.Tag == "head" && len(a.Data) >= 12 && len(b.Data) >= 12 {
		return a.Data[:8] == b.Data[:8] && a.Data[12:] == b.Data[12:]
	}
	return a == b
}

func longHead(l []api.Table) (string, bool) {
	for _, t := range l {
		if t.Tag == "head" && len(t.Data) >= 12 {
			return t.Data, true
		}
	}
	return "", false
}

// numbers are as if by chance, and hang on the seed alone.
func numbers(seed int) func(below int) int {
	x := uint64(seed)*2654435761 + 1
	return func(below int) int {
		x = x*6364136223846793005 + 1442695040888963407
		return int(x>>33) % below
	}
}
