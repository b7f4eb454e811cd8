package cmap

import (
	"math/bits"

	"colophon/api"
)

// mostNarrow is how many spans a narrow table takes: one segment more stands
// behind theirs.
const mostNarrow = 4095

// narrow tells whether a good list can be written as format 4. Its lasts rise.
func narrow(l []api.Chars) bool {
	return len(l) <= mostNarrow && (len(l) == 0 || l[len(l)-1].Last < lastCode)
}

// opening is what stands ahead of a table's only map.
func opening(encoding int) []byte {
	text := appendTwo([]byte(version), 1, 3, encoding)
	return appendFour(text, headSize+rowSize)
}

func wideTable(l []api.Chars) []byte {
	text := append(opening(10), wideFormat...)
	text = appendFour(text, wideHead+groupSize*len(l), 0, len(l))
	for _, c := range l {
		text = appendFour(text, c.First, c.Last, c.Glyph)
	}
	return text
}

// narrowTable has one list of the segments' numbers behind the other. The last
// segment is no span's: the format asks for it.
func narrowTable(l []api.Chars) []byte {
	var lasts, firsts, deltas []int
	for _, c := range l {
		lasts, firsts, deltas = append(lasts, c.Last), append(firsts, c.First), append(deltas, c.Glyph-c.First)
	}
	lasts, firsts, deltas = append(lasts, lastCode), append(firsts, lastCode), append(deltas, 1)
	count := len(lasts)
	exponent := bits.Len(uint(count)) - 1
	power := 1 << exponent

	text := append(opening(1), narrowFormat...)
	text = appendTwo(text, narrowHead+segmentSize*count, 0, 2*count, 2*power, exponent, 2*count-2*power)
	text = appendTwo(text, lasts...)
	text = appendTwo(text, 0)
	text = appendTwo(text, firsts...)
	text = appendTwo(text, deltas...)
	return appendTwo(text, make([]int, count)...)
}

// appendTwo writes numbers of two bytes. Of one below 0 the last two bytes are
// just what it is modulo 65536.
func appendTwo(text []byte, numbers ...int) []byte {
	for _, x := range numbers {
		text = append(text, byte(x>>8), byte(x))
	}
	return text
}

func appendFour(text []byte, numbers ...int) []byte {
	for _, x := range numbers {
		text = appendTwo(text, x>>16, x)
	}
	return text
}
