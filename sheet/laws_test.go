package sheet_test

import (
	"fmt"
	"slices"
	"strings"
	"testing"
	"unsafe"

	"colophon/api"
	"colophon/sheet"
)

// Sheets as if by chance.

// author writes sheets that are mostly well, piece by piece.
type author struct {
	next   func(below int) int
	pieces []string
}

func (a *author) write(pieces ...string) { a.pieces = append(a.pieces, pieces...) }

func (a *author) one(l ...string) string { return l[a.next(len(l))] }

// many is how many there are of something: mostly few, and now and then as many as
// there may be.
func (a *author) many(least int) int {
	if a.next(60) == 0 {
		return 15 + a.next(2)
	}
	return least + a.next(3)
}

func (a *author) blanks() {
	if a.next(3) == 0 {
		a.write(a.one(" ", "\n", "\t", "\r\n", "  "))
	}
}

func (a *author) name() string {
	return a.one("p", "a", "b", "doc", "x-1", "h2", "size", "abcdefghijklmnop", "z9---", "yes")
}

func (a *author) part() {
	element, rest := a.next(4), a.next(4)
	switch element {
	case 0:
		a.write("*")
	case 1, 2:
		a.write(a.name())
	}
	id := a.next(3) == 0
	if element == 3 && rest == 0 {
		a.write("#", a.name())
		id = false
	}
	for range rest {
		if id && a.next(2) == 0 {
			a.write("#", a.name())
			id = false
		}
		a.write(".", a.name())
	}
}

func (a *author) selector() {
	a.blanks()
	a.part()
	for range a.many(1) - 1 {
		if a.next(3) == 0 {
			a.blanks()
			a.write(">")
			a.blanks()
		} else {
			a.write(a.one(" ", "\n", " \t"))
		}
		a.part()
	}
	a.blanks()
}

func (a *author) decl() {
	a.blanks()
	may := mayBe()[a.next(9)]
	a.write(may.name)
	a.blanks()
	a.write(":")
	a.blanks()
	if words := strings.Fields(may.words); len(words) > 0 {
		a.write(a.one(words...))
		return
	}
	a.write(a.one("1", "12", "1000", "10", "007", "999"), a.one("", "", ".5", ".25", ".000", ".0000001"), "pt")
}

func (a *author) rule() {
	a.selector()
	for range a.many(1) - 1 {
		a.write(",")
		a.selector()
	}
	a.write("{")
	for i := range a.many(0) {
		if i > 0 {
			a.blanks()
			a.write(";")
		}
		a.decl()
	}
	a.blanks()
	if a.pieces[len(a.pieces)-1] != "{" && a.next(3) == 0 && strings.Trim(a.pieces[len(a.pieces)-1], blankBytes) != "" {
		a.write(";")
		a.blanks()
	}
	a.write("}")
}

// err puts a fault in.
func (a *author) err() {
	at := a.next(len(a.pieces))
	other := a.one("x", " ", ">", ",", ".", "#", "*", "{", "}", ";", ":", "pt", "0", "size", "keep", "no", "P", "\xff", "\x00", "-", "yes", "\n", "1001", "\u00a0")
	switch a.next(4) {
	case 0:
		a.pieces = slices.Delete(a.pieces, at, at+1)
	case 1:
		a.pieces = slices.Insert(a.pieces, at, other)
	case 2:
		a.pieces[at] = other
	default:
		with := a.next(len(a.pieces))
		a.pieces[at], a.pieces[with] = a.pieces[with], a.pieces[at]
	}
}

func sheetOf(seed int) string {
	a := author{next: numbers(seed)}
	for range a.next(4) {
		a.rule()
		a.blanks()
	}
	for range a.next(4) - 1 {
		if len(a.pieces) > 0 {
			a.err()
		}
	}
	return strings.Join(a.pieces, "")
}

func TestManySheets(t *testing.T) {
	count := map[api.Errno]int{}
	behind := 0
	for seed := range 60000 {
		s := sheetOf(seed)
		err := as(t, fmt.Sprint("seed ", seed), s)
		count[err]++
		if _, at, _ := sheet.Parse(s); at > 10 {
			behind++
		}
	}
	if count[api.OK] < 20000 || count[api.ErrSheet] < 10000 || behind < 5000 || len(count) > 2 {
		t.Errorf("%v, %d of them behind other rules", count, behind)
	}
}

// Every text of up to so many of a few pieces, at some place of a sheet.
func TestAllShortSheets(t *testing.T) {
	for _, l := range []struct {
		before, behind string
		pieces         []string
		most           int
	}{
		{"", "", []string{"p", "{", "}", " ", ",", "*", ">", "keep:no", ";"}, 5},
		{"", "{}", []string{"p", "*", ".", "#", " ", ">", ",", "a"}, 6},
		{"", "", []string{"p{", "}", "size", "keep", ":", ";", "1pt", "no", " "}, 5},
		{"p{", "}", []string{"size", "font", "keep", ":", ";", "1", "pt", "yes", " "}, 5},
		{"p{size:", "}", []string{"0", "1", "9", ".", "-", "pt", " ", "e", "00"}, 5},
		{"p{indent:", "pt}", []string{"0", "1", "9", ".", "-", "5", "00"}, 5},
		{" p{}", "q{} ", []string{"p", "{}", " ", "}", "{", "\n", ".a"}, 5},
	} {
		rows := []string{""}
		for range l.most {
			var longer []string
			for _, s := range rows {
				for _, p := range l.pieces {
					longer = append(longer, s+p)
				}
			}
			rows = longer
			for _, s := range rows {
				as(t, "short", l.before+s+l.behind)
			}
		}
	}
}

// Each byte of a sheet left out, doubled, or another one.
func TestEachByte(t *testing.T) {
	const s = "\tp.a#i > b *.c , #j{size:12.5pt;keep : yes}q{ font:7; align:left ; }\nr>s{}\n"
	if as(t, "as it is", s) != api.OK {
		t.Error("not well")
	}
	for i := range len(s) {
		as(t, "a byte less", s[:i]+s[i+1:])
		as(t, "a byte twice", s[:i]+s[i:i+1]+s[i:])
		as(t, "cut off", s[:i])
		as(t, "from here on", s[i:])
		as(t, "cut out", s[:i]+s[min(len(s), i+3):])
		for b := range 256 {
			as(t, "another byte", s[:i]+string([]byte{byte(b)})+s[i+1:])
			as(t, "a byte more", s[:i]+string([]byte{byte(b)})+s[i:])
		}
		for j := range i {
			as(t, "bytes less", s[:j]+s[i:])
		}
	}
}

// Bytes of any kind.
func TestAnyBytes(t *testing.T) {
	const some = "pa1- .#*>,{}:;keep:no;font:1size:pt\n\t\r\x00\xff\u00a0P"
	for seed := range 20000 {
		next := numbers(seed)
		var s strings.Builder
		for range next(30) {
			if next(20) == 0 {
				s.WriteByte(byte(next(256)))
			} else {
				s.WriteByte(some[next(len(some))])
			}
		}
		as(t, fmt.Sprint("any, seed ", seed), s.String())
		as(t, fmt.Sprint("any, seed ", seed), "p{"+s.String()+"}")
		as(t, fmt.Sprint("any, seed ", seed), "p{}"+s.String()+"{}")
	}
}

// Rules as if by chance.

func someRules(next func(below int) int) []api.Rule {
	one := func(l ...string) string { return l[next(len(l))] }
	few := func(least int) int {
		if next(40) == 0 {
			return 15 + next(2)
		}
		return least + next(3)
	}
	name := func() string {
		return one("p", "a", "b", "z9", "x-y", "abcdefghijklmnop", "q-", "doc", "h1")
	}
	ends := [9][2]int{{0, 9}, {65536, 65536000}, {65536, 65536000}, {0, 3}, {0, 65536000}, {0, 65536000}, {0, 65536000}, {0, 1}, {0, 1}}
	var l []api.Rule
	for range next(5) {
		var r api.Rule
		for range few(1) {
			var x api.Selector
			for i := range few(1) {
				p := api.Part{Child: i > 0 && next(3) == 0}
				if next(3) > 0 {
					p.Name = name()
				}
				if next(4) == 0 {
					p.Id = name()
				}
				if next(2) == 0 {
					p.Classes = []string{}
					for range few(0) {
						p.Classes = append(p.Classes, name())
					}
				}
				x.Parts = append(x.Parts, p)
			}
			r.Selectors = append(r.Selectors, x)
		}
		for range few(0) {
			d := api.Decl{Prop: next(9)}
			d.Value = ends[d.Prop][0] + next(ends[d.Prop][1]-ends[d.Prop][0]+1)
			if next(3) == 0 && ends[d.Prop][1] > 65536 {
				d.Value = 65536 * (1 + next(1000))
			}
			r.Decls = append(r.Decls, d)
		}
		l = append(l, r)
	}
	return l
}

// spoil puts a fault in rules.
func spoil(next func(below int) int, l []api.Rule) {
	if len(l) == 0 {
		return
	}
	one := func(l ...string) string { return l[next(len(l))] }
	r := &l[next(len(l))]
	if next(3) == 0 {
		r.Decls = append(r.Decls, api.Decl{Prop: next(12) - 1, Value: (next(20) - 3) << (next(2) * (14 + next(10)))})
		return
	}
	if len(r.Selectors) == 0 {
		return
	}
	x := &r.Selectors[next(len(r.Selectors))]
	if len(x.Parts) == 0 {
		return
	}
	p := &x.Parts[next(len(x.Parts))]
	name := one("", "P", "1", "-", "abcdefghijklmnopq", "a b", "a.b", "*", "p", "\xff", "a#b", "a>b", "a,b")
	switch next(9) {
	case 0:
		p.Name = name
	case 1:
		p.Id = name
	case 2:
		p.Classes = append(p.Classes, name)
	case 3:
		p.Child = !p.Child
	case 4:
		x.Parts = nil
	case 5:
		r.Selectors = nil
	case 6:
		x.Parts = append(x.Parts, times(17-min(17, len(x.Parts)), star())...)
	case 7:
		r.Selectors = append(r.Selectors, api.Selector{})
	default:
		p.Classes = times(15+next(3), "c")
	}
}

func rulesOf(seed int) []api.Rule {
	next := numbers(seed)
	l := someRules(next)
	for range next(4) - 1 {
		spoil(next, l)
	}
	return l
}

func TestManyRulesPrinted(t *testing.T) {
	count := map[api.Errno]int{}
	for seed := range 30000 {
		count[prints(t, fmt.Sprint("seed ", seed), rulesOf(seed))]++
	}
	if count[api.OK] < 10000 || count[api.ErrSheet] < 5000 || len(count) > 2 {
		t.Errorf("%v", count)
	}
}

func TestManyRulesWeighedAndHeldAgainstOthers(t *testing.T) {
	alike := 0
	for seed := range 30000 {
		l := rulesOf(seed)
		for _, r := range l {
			for _, x := range r.Selectors {
				weighs(t, x, modelWeight(x))
			}
		}
		other := rulesOf(seed)
		same(t, l, other, true)
		spoil(numbers(seed+1), other)
		same(t, l, other, modelSame(l, other))
		if modelSame(l, other) {
			alike++
		}
		same(t, l, rulesOf(seed+1), modelSame(l, rulesOf(seed+1)))
	}
	if alike < 1000 || alike > 15000 {
		t.Errorf("%d are alike", alike)
	}
}

// P19.5

func TestWhatIsPrintedIsParsedAsItself(t *testing.T) {
	well := 0
	for seed := range 30000 {
		l := rulesOf(seed)
		s, err := sheet.Print(l)
		if err != api.OK {
			continue
		}
		well++
		back, at, err := sheet.Parse(s)
		if !sheet.Same(back, l) || !modelSame(back, l) || at != 0 || err != api.OK {
			t.Errorf("Parse(%s) is %s, %d, %v; printed of %s", tell(s), tell(back), at, err, tell(l))
		}
	}
	if well < 10000 {
		t.Errorf("only %d are printed", well)
	}
	for _, l := range [][]api.Rule{nil, times(256, declares(times(16, decl(1, 65537))...)), upTo(1 << 20)} {
		s, err := sheet.Print(l)
		if back, at, e := sheet.Parse(s); !modelSame(back, l) || at != 0 || err != api.OK || e != api.OK {
			t.Errorf("Parse(%s) is %s, %d, %v; printed of %s, %v", tell(s), tell(back), at, e, tell(l), err)
		}
	}
}

// Each length is written so that it is read as itself.
func TestEachLengthComesBack(t *testing.T) {
	for x := 0; x <= 65536000; x += 1 + x%997 {
		l := []api.Rule{declares(decl(4, x), decl(5, x), decl(6, 65536000-x))}
		s, err := sheet.Print(l)
		if back, _, e := sheet.Parse(s); !sheet.Same(back, l) || err != api.OK || e != api.OK {
			t.Errorf("%d is written %s, %v, and read as %s, %v", x, tell(s), err, tell(back), e)
		}
	}
}

func TestWhatIsParsedIsPrintedAndParsedAlike(t *testing.T) {
	well := 0
	for seed := range 30000 {
		l, _, err := sheet.Parse(sheetOf(seed))
		if err != api.OK {
			continue
		}
		well++
		s, err := sheet.Print(l)
		back, at, e := sheet.Parse(s)
		if !sheet.Same(back, l) || at != 0 || err != api.OK || e != api.OK {
			t.Errorf("Parse(%s) is %s, %d, %v; printed of %s, %v", tell(s), tell(back), at, e, tell(l), err)
		}
		if again, err := sheet.Print(back); again != s || err != api.OK {
			t.Errorf("Print(%s) is %s, %v; before: %s", tell(back), tell(again), err, tell(s))
		}
	}
	if well < 10000 {
		t.Errorf("only %d are parsed", well)
	}
}

func somePath(next func(below int) int) []api.Facts {
	one := func(l ...string) string { return l[next(len(l))] }
	var l []api.Facts
	for range next(9) {
		e := api.Facts{Name: one("p", "a", "b", ""), Id: one("", "", "i", "j")}
		for range next(4) {
			e.Classes = append(e.Classes, one("x", "y", "z", ""))
		}
		l = append(l, e)
	}
	return l
}

// someSelector is one of any parts, most of which fit most elements.
func someSelector(next func(below int) int) api.Selector {
	one := func(l ...string) string { return l[next(len(l))] }
	var x api.Selector
	for range next(6) {
		p := api.Part{Child: next(3) == 0}
		if next(2) == 0 {
			p.Name = one("p", "a", "b", "q")
		}
		if next(8) == 0 {
			p.Id = one("i", "j")
		}
		for range next(8) / 5 {
			p.Classes = append(p.Classes, one("x", "y", "z", ""))
		}
		x.Parts = append(x.Parts, p)
	}
	return x
}

func TestManyMatches(t *testing.T) {
	yes, longer := 0, 0
	for seed := range 300000 {
		next := numbers(seed)
		x, path := someSelector(next), somePath(next)
		asked := modelMatch(x.Parts, path)
		if got := sheet.Match(x, path); got != asked {
			t.Errorf("Match(%s, %s) is %v", tell(x), tell(path), got)
		}
		if !asked {
			continue
		}
		yes++
		if len(x.Parts) > 2 {
			longer++
		}
		if last := parts(x.Parts[len(x.Parts)-1]); !sheet.Match(last, path) {
			t.Errorf("%s matches %s, its last part doesn't", tell(x), tell(path))
		}
		if around := append(somePath(next), path...); !sheet.Match(x, around) {
			// Further out, nothing is asked of a Child but of the first part's.
			t.Errorf("%s matches %s, but not %s", tell(x), tell(path), tell(around))
		}
		loose := copiedSelector(x)
		for i := range loose.Parts {
			loose.Parts[i].Child = false
		}
		at := next(len(path))
		if within := slices.Concat(path[:at], somePath(next), path[at:]); !sheet.Match(loose, within) {
			t.Errorf("%s matches %s, but not %s", tell(loose), tell(path), tell(within))
		}
	}
	if yes < 30000 || longer < 3000 {
		t.Errorf("%d match, %d of them with more than two parts", yes, longer)
	}
}

// What is told is new memory.

// stretch is the memory of a text, or of a list with its spare room. It holds a
// pointer, not a number, so that this memory is not freed and given to another
// answer while stretches are gathered.
type stretch struct {
	what string
	at   unsafe.Pointer
	size uintptr
}

func (a stretch) from() uintptr { return uintptr(a.at) }
func (a stretch) to() uintptr   { return uintptr(a.at) + a.size }

func ofText(what, s string) stretch {
	return stretch{what, unsafe.Pointer(unsafe.StringData(s)), uintptr(len(s))}
}

func ofList[T any](what string, l []T) stretch {
	var x T
	return stretch{what, unsafe.Pointer(unsafe.SliceData(l)), uintptr(cap(l)) * unsafe.Sizeof(x)}
}

func ofRules(what string, l []api.Rule) []stretch {
	all := []stretch{ofList(what, l)}
	for _, r := range l {
		all = append(all, ofList(what+"' Selectors", r.Selectors), ofList(what+"' Decls", r.Decls))
		for _, x := range r.Selectors {
			all = append(all, ofList(what+"' Parts", x.Parts))
			for _, p := range x.Parts {
				all = append(all, ofText(what+"' Name "+p.Name, p.Name), ofText(what+"' Id "+p.Id, p.Id), ofList(what+"' Classes", p.Classes))
				for _, c := range p.Classes {
					all = append(all, ofText(what+"' class "+c, c))
				}
			}
		}
	}
	return all
}

// apart fails, unless no two stretches share any memory.
func apart(t *testing.T, l []stretch) {
	t.Helper()
	slices.SortFunc(l, func(a, b stretch) int {
		switch {
		case a.from() < b.from():
			return -1
		case a.from() > b.from():
			return 1
		}
		return 0
	})
	var last stretch
	for _, x := range l {
		if x.size == 0 {
			continue
		}
		if last.size > 0 && last.to() > x.from() {
			t.Errorf("%s and %s share memory", last.what, x.what)
		}
		if x.to() > last.to() {
			last = x
		}
	}
}

func TestNewMemory(t *testing.T) {
	sheets := []string{"", "p{}", "p{}p{}", "p p p.p.p#p,p{}", "*{font:1}", "a.a.a>a#a{keep:no}", "abcdefghijklmnop.abcdefghijklmnop#abcdefghijklmnop{}"}
	for seed := range 3000 {
		sheets = append(sheets, sheetOf(seed))
	}
	for _, s := range sheets {
		l, _, _ := sheet.Parse(s)
		again, _, _ := sheet.Parse(s)
		printed, _ := sheet.Print(l)
		next, _ := sheet.Print(l)
		all := []stretch{ofText("the text", s), ofText("what is printed", printed), ofText("what is printed next", next)}
		apart(t, slices.Concat(all, ofRules("the rules", l), ofRules("the next rules", again)))
	}
}

func TestWhatIsToldStays(t *testing.T) {
	b := []byte("p.a#i > b, .c{size:12.5pt;keep:yes}\nq{} ")
	before := string(b)
	l, at, err := sheet.Parse(unsafe.String(&b[0], len(b)))
	if string(b) != before || err != api.OK {
		t.Errorf("%s has become %s, %v", before, b, err)
	}
	told := fmt.Sprintf("%#v %d", l, at)
	printed, _ := sheet.Print(l)
	was := strings.Clone(printed)
	for i := range b {
		b[i] = '!'
	}
	if after := fmt.Sprintf("%#v %d", l, at); after != told {
		t.Errorf("%s has become %s", told, after)
	}
	name := []byte("name")
	of := []api.Rule{rule(parts(named(unsafe.String(&name[0], 4))))}
	text, _ := sheet.Print(of)
	copy(name, "!!!!")
	l[0].Selectors[0].Parts[0].Name = "other"
	if text != "name { }\n" || printed != was {
		t.Errorf("what was printed has become %q and %q", text, printed)
	}
}

// room gives each list of some rules spare room with something in it.
func room(l []api.Rule) []api.Rule {
	out := append(slices.Clone(l), api.Rule{Decls: []api.Decl{{Prop: 7}}}, api.Rule{})[:len(l)]
	for i := range out {
		r := &out[i]
		r.Decls = append(slices.Clone(r.Decls), decl(-7, -7), decl(0, 0))[:len(r.Decls)]
		r.Selectors = append(slices.Clone(r.Selectors), parts(named("spare")), api.Selector{})[:len(r.Selectors)]
		for j := range r.Selectors {
			r.Selectors[j] = roomy(r.Selectors[j])
		}
	}
	return out
}

func roomy(x api.Selector) api.Selector {
	x.Parts = append(slices.Clone(x.Parts), named("spare"), star())[:len(x.Parts)]
	for i := range x.Parts {
		p := &x.Parts[i]
		p.Classes = append(slices.Clone(p.Classes), "spare", "")[:len(p.Classes)]
	}
	return x
}

// full is what is in the lists, their spare room with them.
func full(l []api.Rule) string {
	var s strings.Builder
	for _, r := range l[:cap(l)] {
		fmt.Fprintf(&s, "%v", r.Decls[:cap(r.Decls)])
		for _, x := range r.Selectors[:cap(r.Selectors)] {
			s.WriteString(fullSelector(x))
		}
	}
	return s.String()
}

func fullSelector(x api.Selector) string {
	var s strings.Builder
	for _, p := range x.Parts[:cap(x.Parts)] {
		fmt.Fprintf(&s, "%q %q %v %q", p.Name, p.Id, p.Child, p.Classes[:cap(p.Classes)])
	}
	return s.String()
}

func TestNothingIsChanged(t *testing.T) {
	for seed := range 3000 {
		next := numbers(seed)
		l, other := room(rulesOf(seed)), room(rulesOf(seed/2))
		x := roomy(someSelector(next))
		path := somePath(next)
		path = append(path, element("spare", ""), api.Facts{})[:len(path)]
		for i := range path {
			path[i].Classes = append(path[i].Classes, "spare", "")[:len(path[i].Classes)]
		}
		before := full(l) + full(other) + fullSelector(x) + fmt.Sprint(path[:cap(path)])
		for _, e := range path {
			before += fmt.Sprint(e.Classes[:cap(e.Classes)])
		}
		sheet.Print(l)
		sheet.Same(l, other)
		sheet.Weight(x)
		sheet.Match(x, path)
		after := full(l) + full(other) + fullSelector(x) + fmt.Sprint(path[:cap(path)])
		for _, e := range path {
			after += fmt.Sprint(e.Classes[:cap(e.Classes)])
		}
		if after != before {
			t.Errorf("%s has become %s", tell(before), tell(after))
		}
	}
}

func TestAnswersHangOnTheArgumentsAlone(t *testing.T) {
	ask := func(seed int) string {
		next := numbers(seed)
		l, at, err := sheet.Parse(sheetOf(seed))
		s, e := sheet.Print(rulesOf(seed))
		x, path := someSelector(next), somePath(next)
		return fmt.Sprintf("%#v %d %v %q %v %v %v %v", l, at, err, s, e, sheet.Match(x, path), sheet.Weight(x), sheet.Same(l, rulesOf(seed)))
	}
	const n = 1000
	var first []string
	for seed := range n {
		first = append(first, ask(seed))
	}
	for seed := n - 1; seed >= 0; seed-- {
		if again := ask(seed); again != first[seed] {
			t.Errorf("seed %d: %s, and then %s", seed, tell(first[seed]), tell(again))
		}
	}
}

// With an error there is nothing; with OK the place is 0.
func TestWithAnErrorThereIsNothing(t *testing.T) {
	wrongs := 0
	for seed := range 30000 {
		l, at, err := sheet.Parse(sheetOf(seed))
		if err != api.OK && len(l) != 0 || err == api.OK && at != 0 {
			t.Errorf("seed %d: %s, %d, %v", seed, tell(l), at, err)
		}
		s, e := sheet.Print(rulesOf(seed))
		if e != api.OK && s != "" {
			t.Errorf("seed %d: %s, %v", seed, tell(s), e)
		}
		if err != api.OK {
			wrongs++
		}
	}
	if wrongs < 5000 {
		t.Errorf("only %d are wrong", wrongs)
	}
}
