package pdfin

import (
	"slices"
	"strconv"
	"strings"

	"colophon/api"
	"colophon/obj"
)

// whole is the file that a right one's bytes are.
func whole(s string) api.File {
	table, end := ending(s)
	r := reader{s: s, at: table}
	places := r.table()
	root := r.trailer(len(places) + 1)
	must(r.at == end)
	r.at = 0
	r.header()
	entries := r.entries(places)
	must(r.at == table)
	return api.File{Entries: entries, Root: root}
}

// reader stands at a place of a file.
type reader struct {
	s  string
	at int
}

func (r *reader) header() {
	r.pass("%PDF-1.7\n%")
	for range 4 {
		must(r.at < len(r.s) && r.s[r.at] >= 128)
		r.at++
	}
	r.pass("\n")
}

// table reads the places of the entries, by rising number.
func (r *reader) table() []int {
	r.pass("xref\n0 ")
	size := number(r.digits())
	must(size >= 2 && size <= api.MaxObjects+1)
	r.pass("\n0000000000 65535 f \n")
	places := make([]int, size-1)
	for i := range places {
		places[i] = r.place()
		r.pass(" 00000 n \n")
	}
	return places
}

func (r *reader) place() int {
	text := r.digits()
	must(len(text) == 10)
	place, err := strconv.Atoi(text)
	must(err == nil)
	return place
}

// trailer reads the number of the root.
func (r *reader) trailer(size int) int {
	r.pass("trailer\n")
	must(!r.takeBlanks())
	o := r.object()
	r.pass("\n")
	must(o.Kind == api.KDict && len(o.Keys) == 2)
	said, _ := obj.Get(o, "Size")
	must(said.Kind == api.KInt && said.Num == size)
	root, _ := obj.Get(o, "Root")
	must(root.Kind == api.KRef && root.Num < size)
	return root.Num
}

// entries reads one behind the other, as many as there are places: so no byte
// is left out and none is read twice, whatever the table says. Since each
// stands where its number's place is, no number can come twice.
func (r *reader) entries(places []int) []api.Entry {
	l := make([]api.Entry, len(places))
	for range places {
		from := r.at
		k := number(r.digits())
		must(k >= 1 && k <= len(places) && places[k-1] == from)
		l[k-1] = r.entry()
	}
	return l
}

// entry reads one, behind its number.
func (r *reader) entry() api.Entry {
	r.pass(" 0 obj")
	r.passBlanks()
	e := api.Entry{Body: r.object()}
	r.passBlanks()
	if r.take("stream\n") {
		e = r.stream(e.Body)
		r.passBlanks()
	}
	r.pass("endobj\n")
	return e
}

// stream reads the bytes that stand behind a dictionary. They are cloned: a
// piece of the text that was handed in would keep all of it.
func (r *reader) stream(o api.Obj) api.Entry {
	length, _ := obj.Get(o, "Length")
	must(length.Kind == api.KInt && length.Num >= 0 && length.Num <= len(r.s)-r.at)
	data := r.s[r.at : r.at+length.Num]
	r.at += length.Num
	r.pass("\nendstream")
	return api.Entry{Body: withoutLength(o), Stream: true, Data: strings.Clone(data)}
}

// withoutLength is a stream's dictionary, of which the key is known to be there.
// It was made here, so its lists may be changed.
func withoutLength(o api.Obj) api.Obj {
	i := slices.Index(o.Keys, "Length")
	o.Keys = slices.Delete(o.Keys, i, i+1)
	o.Items = slices.Delete(o.Items, i, i+1)
	return o
}

func (r *reader) object() api.Obj {
	o, end, err := obj.Parse(r.s, r.at)
	must(err == api.OK)
	r.at = end
	return o
}

// take passes over what is given, if it stands here.
func (r *reader) take(what string) bool {
	if !strings.HasPrefix(r.s[r.at:], what) {
		return false
	}
	r.at += len(what)
	return true
}

func (r *reader) pass(what string) { must(r.take(what)) }

// digits passes over all digits that stand here.
func (r *reader) digits() string {
	from := r.at
	for r.at < len(r.s) && strings.IndexByte(digitBytes, r.s[r.at]) >= 0 {
		r.at++
	}
	return r.s[from:r.at]
}

// takeBlanks passes over all blanks that stand here, and tells whether any do.
func (r *reader) takeBlanks() bool {
	from := r.at
	for r.at < len(r.s) && strings.IndexByte(blankBytes, r.s[r.at]) >= 0 {
		r.at++
	}
	return r.at > from
}

func (r *reader) passBlanks() { must(r.takeBlanks()) }
