package metrics

import (
	"slices"
	"strings"

	"colophon/api"
)

// draft is the bytes of a table that is built, 0 where nothing is put.
type draft []byte

// put writes numbers from a place on, two bytes each. Of one below 0 the last
// two bytes are just what makes it a signed number.
func (d draft) put(at int, numbers ...int) {
	for i, x := range numbers {
		d[at+2*i], d[at+2*i+1] = byte(x>>8), byte(x)
	}
}

// named is the table with that tag. The tag is copied: a constant's bytes would
// be shared by all answers.
func (d draft) named(tag string) api.Table {
	return api.Table{Tag: strings.Clone(tag), Data: string(d)}
}

func head(m api.Metrics) draft {
	d := make(draft, headSize)
	copy(d, version)
	copy(d[revisionAt:], version)
	copy(d[magicAt:], magic)
	d.put(upemAt, m.Upem)
	d.put(boxAt, m.Box[:]...)
	d.put(directionAt, 2)
	if m.Long {
		d.put(longAt, 1)
	}
	return d
}

func hhea(m api.Metrics) draft {
	d := make(draft, hheaSize)
	copy(d, version)
	d.put(ascentAt, m.Ascent)
	d.put(descentAt, m.Descent)
	d.put(gapAt, m.Gap)
	d.put(greatestAt, slices.Max(m.Advance))
	d.put(pairsAt, len(m.Advance))
	return d
}

func hmtx(m api.Metrics) draft {
	d := make(draft, 4*len(m.Advance))
	for i, advance := range m.Advance {
		d.put(4*i, advance, m.Bearing[i])
	}
	return d
}

func maxp(m api.Metrics) draft {
	d := make(draft, maxpSize)
	copy(d, version)
	d.put(countAt, len(m.Advance))
	d.put(zonesAt, 2)
	return d
}
