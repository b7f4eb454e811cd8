package sfnt

import (
	"bytes"
	"math/bits"

	"colophon/api"
)

const (
	openingSize = 12 // bytes ahead of the rows
	rowSize     = 16
	tagSize     = 4
	lowest      = 32 // of a tag's bytes
	highest     = 126
)

// tag is four bytes, which need not be good ones.
type tag [tagSize]byte

var head = tag{'h', 'e', 'a', 'd'}

// row is what a directory says of a table.
type row struct {
	tag                tag
	sum, place, length int
}

func (r row) end() int { return r.place + r.length }

// meets tells whether two rows have a byte in common.
func (r row) meets(other row) bool {
	return max(r.place, other.place) < min(r.end(), other.end())
}

func (r row) appendTo(text []byte) []byte {
	text = append(text, r.tag[:]...)
	for _, x := range [...]int{r.sum, r.place, r.length} {
		text = appendNumber(text, x, 4)
	}
	return text
}

// rowOf is the row with which a text begins.
func rowOf(s string) row {
	var t tag
	copy(t[:], s)
	return row{tag: t, sum: number(s[4:8]), place: number(s[8:12]), length: number(s[12:16])}
}

// opening is what stands ahead of so many rows.
func opening(count int) string {
	exponent := bits.Len(uint(count)) - 1
	power := 1 << exponent
	text := []byte{0, 1, 0, 0}
	for _, x := range [...]int{count, rowSize * power, exponent, rowSize * (count - power)} {
		text = appendNumber(text, x, 2)
	}
	return string(text)
}

// directorySize is how many bytes a directory with so many rows has.
func directorySize(count int) int { return openingSize + rowSize*count }

// directory is the rows of the one with which a file begins, if it does.
func directory(s string) ([]row, bool) {
	if len(s) < openingSize {
		return nil, false
	}
	count := number(s[4:6])
	if count < 1 || count > api.MaxTables || s[:openingSize] != opening(count) || len(s) < directorySize(count) {
		return nil, false
	}
	rows := make([]row, count)
	for i := range rows {
		rows[i] = rowOf(s[directorySize(i):])
	}
	return rows, tagsRise(rows)
}

// lay gives each of some tables, sorted by their tags, a row without its sum,
// and tells how long the file will be. It is false if the tags may not be.
func lay(tables []api.Table) ([]row, int, bool) {
	var rows []row
	size := directorySize(len(tables))
	for _, t := range tables {
		if len(t.Tag) != tagSize {
			return nil, 0, false
		}
		r := row{place: size, length: len(t.Data)}
		copy(r.tag[:], t.Tag)
		rows = append(rows, r)
		size += filled(r.length)
	}
	return rows, size, tagsRise(rows)
}

// tagsRise tells whether all rows have good tags, each above the one ahead.
func tagsRise(rows []row) bool {
	rise := true
	var ahead tag // at first below all good ones
rows:
	for _, r := range rows {
		for _, b := range r.tag {
			if b < lowest || b > highest {
				rise = false
				break rows
			}
		}
		if bytes.Compare(ahead[:], r.tag[:]) >= 0 {
			rise = false
			break rows
		}
		ahead = r.tag
	}
	return rise
}

// fault is what is wrong with a directory's rows. A wrong sum is told only when
// all rows have been seen: one of a later row's faults would come first.
func fault(s string, rows []row) api.Errno {
	err := api.OK
rows:
	for i, r := range rows {
		if r.place%4 != 0 || r.place < directorySize(len(rows)) || r.end() > len(s) {
			err = api.ErrTable
			break rows
		}
		for _, other := range rows[:i] {
			if r.meets(other) {
				err = api.ErrTable
				break rows
			}
		}
		if r.sum != Sum(summed(r.tag, s[r.place:r.end()])) {
			err = api.ErrSum
		}
	}
	return err
}

// filled is a length, filled up to a multiple of four.
func filled(length int) int { return (length + 3) / 4 * 4 }

// number is what all of some bytes say, the highest first.
func number(s string) int {
	x := 0
	for i := range len(s) {
		x = x<<8 | int(s[i])
	}
	return x
}

// appendNumber writes the last bytes of a number, the highest first.
func appendNumber(text []byte, x, size int) []byte {
	for i := range size {
		text = append(text, byte(x>>(8*(size-1-i))))
	}
	return text
}
