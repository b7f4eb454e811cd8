package interp

import (
	"colophon/api"
	"colophon/fixed"
	"colophon/rect"
)

type point struct{ x, y int }

// state is what q saves and Q brings back. The clips of a depth stay as they are
// while others are begun further in, so they are saved along with the rest.
type state struct {
	origin point
	font   int
	size   int // 0 while there is no font
	clips  int // that were begun at this depth
}

// machine is what words are carried out on.
type machine struct {
	now   state
	saved []state
	open  int // clips, of all depths

	box    api.Rect
	hasBox bool // whether a rectangle is being made
	toClip bool

	inText bool
	line   point // where the text's line begins
	there  bool  // whether one is there, or nowhere

	made []api.Mark
}

func operators() map[string]func(m *machine, given []operand) {
	return map[string]func(m *machine, given []operand){
		"q":  (*machine).save,
		"Q":  (*machine).restore,
		"cm": (*machine).move,
		"re": (*machine).begin,
		"f":  (*machine).fill,
		"W":  (*machine).choose,
		"n":  (*machine).drop,
		"BT": (*machine).openText,
		"ET": (*machine).closeText,
		"Tf": (*machine).setFont,
		"Tm": (*machine).setLine,
		"Td": (*machine).nextLine,
		"Tj": (*machine).show,
	}
}

// save is q.
func (m *machine) save(given []operand) {
	none(given)
	m.idle()
	must(len(m.saved) < api.MaxNest)
	m.saved = append(m.saved, m.now)
	m.now.clips = 0
}

// restore is Q.
func (m *machine) restore(given []operand) {
	none(given)
	m.idle()
	must(len(m.saved) > 0)
	for range m.now.clips {
		m.add(api.Mark{Kind: api.MarkEnd})
	}
	m.open -= m.now.clips
	last := len(m.saved) - 1
	m.now, m.saved = m.saved[last], m.saved[:last]
}

// move is cm.
func (m *machine) move(given []operand) {
	by := shift(given)
	m.idle()
	m.now.origin = sum(m.now.origin, by)
}

// begin is re.
func (m *machine) begin(given []operand) {
	l := numbers(given, 4)
	m.idle()
	// How wide and how high it is, is in, since the numbers that say so are.
	box, ok := rect.Of(l[0], l[1], l[0]+l[2], l[1]+l[3])
	must(ok)
	box, ok = rect.Shift(box, m.now.origin.x, m.now.origin.y)
	must(ok)
	m.box, m.hasBox, m.toClip = box, true, false
}

// fill is f.
func (m *machine) fill(given []operand) {
	none(given)
	must(m.hasBox && !m.toClip)
	m.add(api.Mark{Kind: api.MarkRule, Box: m.box})
	m.hasBox = false
}

// choose is W.
func (m *machine) choose(given []operand) {
	none(given)
	must(m.hasBox && !m.toClip)
	m.toClip = true
}

// drop is n.
func (m *machine) drop(given []operand) {
	none(given)
	must(m.hasBox)
	if m.toClip {
		must(m.open < api.MaxNest)
		m.add(api.Mark{Kind: api.MarkClip, Box: m.box})
		m.open++
		m.now.clips++
	}
	m.hasBox = false
}

// openText is BT.
func (m *machine) openText(given []operand) {
	none(given)
	m.idle()
	m.inText = true
	m.goTo(point{})
}

// closeText is ET.
func (m *machine) closeText(given []operand) {
	none(given)
	must(m.inText)
	m.inText = false
}

// setFont is Tf.
func (m *machine) setFont(given []operand) {
	must(len(given) == 2 && given[0].kind == kindFont)
	size := numbers(given[1:], 1)[0]
	must(size > 0 && !m.hasBox)
	m.now.font, m.now.size = given[0].value, size
}

// setLine is Tm.
func (m *machine) setLine(given []operand) {
	to := shift(given)
	must(m.inText)
	m.goTo(to)
}

// nextLine is Td.
func (m *machine) nextLine(given []operand) {
	l := numbers(given, 2)
	must(m.inText)
	m.goTo(sum(m.line, point{l[0], l[1]}))
}

// show is Tj.
func (m *machine) show(given []operand) {
	must(len(given) == 1 && given[0].kind == kindGlyphs)
	must(m.inText && m.there && m.now.size > 0)
	at := sum(m.now.origin, m.line)
	m.add(api.Mark{
		Kind: api.MarkText, Font: m.now.font, Size: m.now.size,
		X: at.x, Y: at.y, Glyphs: given[0].glyphs,
	})
	m.there = false
}

// end is what must be behind the last word. A clip that was begun at the
// outermost depth is one that nothing can end.
func (m *machine) end() {
	m.idle()
	must(len(m.saved) == 0 && m.open == 0)
}

// idle gives up, if a text or a rectangle is begun and not ended.
func (m *machine) idle() { must(!m.inText && !m.hasBox) }

// goTo begins the text's line at a point.
func (m *machine) goTo(to point) { m.line, m.there = to, true }

func (m *machine) add(mark api.Mark) {
	must(len(m.made) < api.MaxMarks)
	m.made = append(m.made, mark)
}

// shift is how far a matrix moves, if it does nothing else.
func shift(given []operand) point {
	l := numbers(given, 6)
	must([4]int(l[:4]) == [4]int{api.One, 0, 0, api.One})
	return point{l[4], l[5]}
}

// sum gives up, if what comes of it is not in.
func sum(a, b point) point {
	x, wide := fixed.Add(a.x, b.x)
	y, high := fixed.Add(a.y, b.y)
	must(wide && high)
	return point{x, y}
}
