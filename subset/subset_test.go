package subset_test

import (
	"fmt"
	"slices"
	"strings"
	"testing"
	"unsafe"

	"colophon/api"
	"colophon/subset"
)

func TestTheChaptersExamples(t *testing.T) {
	f := made("", dot, dot, of(2))
	closed(t, "of 2", f, []int{3}, 0, 2, 3)
	closed(t, "none", f, nil, 0)
	refused(t, "4 of four", f, []int{4}, api.ErrArg)
	part, old, err := subset.Make(f, []int{3})
	if len(part.Glyphs) != 3 || part.Glyphs[2] != of(1) || !slices.Equal(old, []int{0, 2, 3}) || err != api.OK {
		t.Errorf("%s, %v, %v", tell(part), old, err)
	}
	placed(t, []int{0, 2, 3}, 2, 1, true)
	placed(t, []int{0, 2, 3}, 1, 0, false)
}

// P13.3

// placed fails, unless a glyph's place is told so.
func placed(t *testing.T, old []int, glyph, want int, ok bool) {
	t.Helper()
	if at, gotOk := subset.Place(old, glyph); at != want || gotOk != ok {
		t.Errorf("Place(%s, %d) is %d, %v; asked: %d, %v", tell(old), glyph, at, gotOk, want, ok)
	}
}

func TestPlace(t *testing.T) {
	old := []int{0, 2, 3, 7, 9}
	placed(t, old, 0, 0, true)
	placed(t, old, 2, 1, true)
	placed(t, old, 3, 2, true)
	placed(t, old, 7, 3, true)
	placed(t, old, 9, 4, true)
	for _, g := range []int{1, 4, 5, 6, 8, 10, -1, -2, -9, 4096, 65536, 1 << 32, 1<<32 + 2, 1<<32 + 9, -1 << 32, 2 - 1<<32, least, least + 2, most, most - 1} {
		placed(t, old, g, 0, false)
	}
	for _, g := range []int{0, 1, -1, 5, least, most} {
		placed(t, nil, g, 0, false)
		placed(t, []int{}, g, 0, false)
		placed(t, []int{g}, g, 0, true)
		placed(t, []int{g ^ 1}, g, 0, false)
		placed(t, []int{g ^ 1, g}, g, 1, true)
	}
	// Several times: the first place.
	placed(t, []int{5, 5, 5}, 5, 0, true)
	placed(t, []int{1, 5, 2, 5}, 5, 1, true)
	placed(t, []int{1, 2, 5, 5}, 5, 2, true)
	placed(t, []int{0, 0, 3}, 0, 0, true)
	// Nothing is asked of old: it need not rise, nor be of glyphs.
	placed(t, []int{9, 3, 7, 0, 2}, 3, 1, true)
	placed(t, []int{9, 3, 7, 0, 2}, 0, 3, true)
	placed(t, []int{9, 3, 7, 0, 2}, 2, 4, true)
	placed(t, []int{most, least, -1, 1 << 40}, -1, 2, true)
	placed(t, []int{most, least, -1, 1 << 40}, least, 1, true)
	placed(t, []int{most, least, -1, 1 << 40}, 1<<40, 3, true)
	placed(t, []int{most, least, -1, 1 << 40}, 0, 0, false)
	placed(t, []int{4, 5, 6, 7}[:2], 6, 0, false)
	long := upTo(0, 99999)
	placed(t, long, 99999, 99999, true)
	placed(t, long, 65537, 65537, true)
	placed(t, long, 100000, 0, false)
}

func TestManyPlaces(t *testing.T) {
	for seed := range 2000 {
		next := numbers(seed)
		var old []int
		for range next(12) {
			old = append(old, next(15)-2)
		}
		for g := -4; g < 16; g++ {
			want, ok := 0, false
			for i := len(old) - 1; i >= 0; i-- {
				if old[i] == g {
					want, ok = i, true
				}
			}
			placed(t, old, g, want, ok)
		}
	}
}

// What is handed in is not changed, and nothing told is shared.

// roomy is a face whose lists have spare room with something in it, and the one
// that has this in its lists.
func roomy(f api.Face) (inner, whole api.Face) {
	whole = copied(f)
	whole.M.Advance = append(whole.M.Advance, 7, -7)
	whole.M.Bearing = append(whole.M.Bearing, 8, -8)
	whole.Glyphs = append(whole.Glyphs, "a", dot)
	whole.Chars = append(whole.Chars, api.Chars{First: 1 << 19, Last: 1 << 19, Glyph: 1}, api.Chars{})
	inner = whole
	inner.M.Advance, inner.M.Bearing = whole.M.Advance[:len(f.M.Advance)], whole.M.Bearing[:len(f.M.Bearing)]
	inner.Glyphs, inner.Chars = whole.Glyphs[:len(f.Glyphs)], whole.Chars[:len(f.Chars)]
	return inner, whole
}

// someFaces are faces that may be, and ones that may not.
func someFaces() map[string]api.Face {
	all := map[string]api.Face{
		"nothing":        {},
		"base":           base(),
		"one glyph":      dots(1),
		"many glyphs":    showing(dots(300), 97, 300, 1, 1000, 1100, 4),
		"too many spans": showing(dots(4096), 0, 4094, 1, 10000, 14094, 1, 20000, 20000, 1),
	}
	for _, x := range faceFaults() {
		f := base()
		x.spot(&f)
		all[x.what] = f
	}
	for seed := range 20 {
		all[fmt.Sprint("seed ", seed)] = someFace(numbers(seed), 6+seed)
	}
	return all
}

func TestNothingHandedInIsChanged(t *testing.T) {
	for what, f := range someFaces() {
		inner, whole := roomy(f)
		was := copied(whole)
		for _, used := range [][]int{{5, 3, 5, 0, 1, 9}, odd(4096), {-1, 2, 3}, {1, most, 0}, {0, 0, 0}} {
			wasUsed := slices.Clone(used)
			for _, some := range [][]int{used[:0], used[:1], used[:2], used[:len(used)-1], used} {
				l, err := subset.Close(inner, some)
				wantList, wantErr := modelClose(f, some)
				if !slices.Equal(l, wantList) || err != wantErr {
					t.Errorf("%s, with spare room: Close is %s, %v", what, tell(l), err)
				}
				part, old, err := subset.Make(inner, some)
				want, wantOld, wantErr := modelMake(f, some)
				if !same(part, want) || !slices.Equal(old, wantOld) || err != wantErr {
					t.Errorf("%s, with spare room: Make is %s, %s, %v", what, tell(part), tell(old), err)
				}
				subset.Place(some, 3)
			}
			if !same(whole, was) || !slices.Equal(used, wasUsed) {
				t.Fatalf("%s, %s: changed", what, tell(wasUsed))
			}
		}
	}
}

// stretch is the memory of a text, or of a list with its spare room. It holds a
// pointer, not a number, so that this memory is not freed and given to another
// answer while stretches are gathered.
type stretch struct {
	what string
	at   unsafe.Pointer
	size uintptr
}

func (a stretch) from() uintptr { return uintptr(a.at) }
func (a stretch) to() uintptr   { return uintptr(a.at) + a.size }

func ofText(what, s string) stretch {
	return stretch{what, unsafe.Pointer(unsafe.StringData(s)), uintptr(len(s))}
}

func ofList[T any](what string, l []T) stretch {
	var x T
	return stretch{what, unsafe.Pointer(unsafe.SliceData(l)), uintptr(cap(l)) * unsafe.Sizeof(x)}
}

func ofFace(what string, f api.Face) []stretch {
	all := []stretch{ofList(what+"'s Advance", f.M.Advance), ofList(what+"'s Bearing", f.M.Bearing), ofList(what+"'s Glyphs", f.Glyphs), ofList(what+"'s Chars", f.Chars)}
	for i, g := range f.Glyphs {
		all = append(all, ofText(fmt.Sprint(what, "'s glyph ", i), g))
	}
	return all
}

func apart(t *testing.T, l []stretch) {
	t.Helper()
	slices.SortFunc(l, func(a, b stretch) int {
		if a.from() != b.from() {
			if a.from() < b.from() {
				return -1
			}
			return 1
		}
		return int(a.size) - int(b.size)
	})
	var last stretch
	for _, x := range l {
		if x.size > 0 && x.from() < last.to() {
			t.Errorf("%s and %s share memory", last.what, x.what)
		}
		if x.to() > last.to() {
			last = x
		}
	}
}

func TestAnswersAreNewMemory(t *testing.T) {
	for what, f := range someFaces() {
		for i, g := range f.Glyphs {
			f.Glyphs[i] = strings.Clone(g)
		}
		n := len(f.Glyphs)
		for _, used := range [][]int{nil, {0}, {max(0, n-1)}, {max(0, n-1), n / 2, n / 2}, upTo(0, n-1)} {
			one, err := subset.Close(f, used)
			if err != api.OK {
				continue
			}
			next, _ := subset.Close(f, used)
			part, old, err := subset.Make(f, used)
			if err != api.OK {
				continue
			}
			again, oldAgain, _ := subset.Make(f, used)
			all := []stretch{ofList("used", used), ofList("Close's answer", one), ofList("the next of Close", next), ofList("Make's list", old), ofList("the next of Make", oldAgain)}
			all = append(all, ofFace("what is handed in", f)...)
			all = append(append(all, ofFace("one part", part)...), ofFace("the next", again)...)
			apart(t, all)
			wasFace, wasUsed := copied(f), slices.Clone(used)
			spoil(part)
			for _, l := range [][]int{one, old} {
				spoilList(l)
			}
			if want, wantOld, _ := modelMake(f, used); !same(again, want) || !slices.Equal(oldAgain, wantOld) || !slices.Equal(next, wantOld) || !same(f, wasFace) || !slices.Equal(used, wasUsed) {
				t.Errorf("%s: an answer or an argument is changed by another answer", what)
			}
			want := copied(again)
			spoil(f)
			if !same(again, want) {
				t.Errorf("%s: an answer is changed by what it was made of", what)
			}
			copyInto(f, wasFace)
		}
	}
}

func spoilList(l []int) {
	for i := range l[:cap(l)] {
		l[:cap(l)][i] = -99
	}
}

// spoil changes a face's lists, with their spare room.
func spoil(f api.Face) {
	spoilList(f.M.Advance)
	spoilList(f.M.Bearing)
	glyphs, chars := f.Glyphs[:cap(f.Glyphs)], f.Chars[:cap(f.Chars)]
	for i := range glyphs {
		glyphs[i] = "spoilt"
	}
	for i := range chars {
		chars[i] = api.Chars{First: -9, Last: -8, Glyph: -7}
	}
}

// copyInto makes a face that was spoilt what it was.
func copyInto(f, was api.Face) {
	copy(f.M.Advance, was.M.Advance)
	copy(f.M.Bearing, was.M.Bearing)
	copy(f.Glyphs, was.Glyphs)
	copy(f.Chars, was.Chars)
}

// With an error nothing else is told, however far a call came.
func TestNothingBesideAnError(t *testing.T) {
	f := base()
	refused(t, "the last number is none", f, []int{3, 2, 1, 5, 6}, api.ErrArg)
	unmade(t, "the last span is too many", showing(dots(4096), 0, 4094, 1, 10000, 14094, 1, 20000, 20000, 1), odd(4096), api.ErrCmap)
	placed(t, []int{1, 2, 3}, 4, 0, false)
}

func TestAnswersHangOnTheArgumentsAlone(t *testing.T) {
	f := someFace(numbers(3), 40)
	used := []int{39, 3, 17, 22, 8}
	want, wantOld, _ := modelMake(f, used)
	for range 200 {
		part, old, err := subset.Make(f, used)
		l, errClose := subset.Close(f, used)
		if !same(part, want) || !slices.Equal(old, wantOld) || !slices.Equal(l, wantOld) || err != api.OK || errClose != api.OK {
			t.Fatalf("%s, %v, %v", tell(part), old, err)
		}
		refused(t, "no glyph", f, []int{40}, api.ErrArg)
		subset.Make(base(), []int{3})
		subset.Place(old, 3)
	}
}
