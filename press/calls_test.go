// The layers are held to the calls that the chapters list: this does not
// compile if one is missing or has another signature. It stands with the top
// layer, which may know all others.
package press_test

import (
	"colophon/anchors"
	"colophon/api"
	"colophon/badness"
	"colophon/breaks"
	"colophon/check"
	"colophon/cmap"
	"colophon/digits"
	"colophon/docgen"
	"colophon/emit"
	"colophon/face"
	"colophon/fixed"
	"colophon/furnish"
	"colophon/glyph"
	"colophon/grid"
	"colophon/hyphen"
	"colophon/interp"
	"colophon/items"
	"colophon/lines"
	"colophon/marks"
	"colophon/metrics"
	"colophon/obj"
	"colophon/pages"
	"colophon/pdfin"
	"colophon/pdfout"
	"colophon/press"
	"colophon/rect"
	"colophon/sfnt"
	"colophon/sheet"
	"colophon/style"
	"colophon/subset"
	"colophon/tree"
	"colophon/unimap"
	"colophon/utf"
)

var (
	_ func(x int) bool                           = fixed.In
	_ func(a, b int) (int, bool)                 = fixed.Add
	_ func(a, b int) (int, bool)                 = fixed.Sub
	_ func(a, n int) (int, bool)                 = fixed.Times
	_ func(a, b, c int) (int, bool)              = fixed.Scale
	_ func(a, b, c int) (int, bool)              = fixed.Floor
	_ func(l []int) (int, bool)                  = fixed.Sum
	_ func(total int, parts []int) ([]int, bool) = fixed.Share

	_ func(x int) (string, bool)      = digits.Text
	_ func(s string) (int, bool)      = digits.Parse
	_ func(s string) (int, api.Errno) = digits.Near

	_ func(r api.Rect) bool                         = rect.May
	_ func(x0, y0, x1, y1 int) (api.Rect, bool)     = rect.Of
	_ func(a, b api.Rect) (api.Rect, bool)          = rect.Meet
	_ func(a, b api.Rect) (api.Rect, bool)          = rect.Join
	_ func(a, b api.Rect) bool                      = rect.Holds
	_ func(r api.Rect, dx, dy int) (api.Rect, bool) = rect.Shift
	_ func(r api.Rect, d int) (api.Rect, bool)      = rect.Inset
	_ func(l []api.Rect) (api.Rect, bool)           = rect.All

	_ func(s string) ([]int, int, api.Errno) = utf.Decode
	_ func(l []int) (string, api.Errno)      = utf.Encode
	_ func(c int) int                        = utf.Class
	_ func(c int) int                        = utf.Lower
	_ func(l []int) []api.Span               = utf.Words
	_ func(l []int) (string, api.Errno)      = utf.Wide
	_ func(s string) ([]int, int, api.Errno) = utf.Narrow

	_ func(o api.Obj) bool                             = obj.Good
	_ func(o api.Obj) (string, api.Errno)              = obj.Print
	_ func(s string, at int) (api.Obj, int, api.Errno) = obj.Parse
	_ func(o api.Obj, key string) (api.Obj, bool)      = obj.Get
	_ func(a, b api.Obj) bool                          = obj.Same

	_ func(f api.File) api.Errno           = pdfout.Check
	_ func(f api.File) (string, api.Errno) = pdfout.Write
	_ func(f api.File) ([]int, api.Errno)  = pdfout.Offsets

	_ func(s string) (api.File, api.Errno) = pdfin.Read
	_ func(s string) (int, api.Errno)      = pdfin.Start

	_ func(s string) int                             = sfnt.Sum
	_ func(s string) ([]api.Table, api.Errno)        = sfnt.Read
	_ func(l []api.Table) (string, api.Errno)        = sfnt.Build
	_ func(s string) bool                            = sfnt.Whole
	_ func(l []api.Table, tag string) (string, bool) = sfnt.Find

	_ func(l []api.Table) (api.Metrics, api.Errno)     = metrics.Read
	_ func(m api.Metrics) bool                         = metrics.Good
	_ func(m api.Metrics) ([]api.Table, api.Errno)     = metrics.Build
	_ func(m api.Metrics, u, size int) (int, bool)     = metrics.Units
	_ func(m api.Metrics, glyph, size int) (int, bool) = metrics.Width

	_ func(loca, glyf string, n int, long bool) ([]string, api.Errno) = glyph.Split
	_ func(l []string) (string, string, api.Errno)                    = glyph.Join
	_ func(g string) api.Errno                                        = glyph.Check
	_ func(g string) ([]int, api.Errno)                               = glyph.Parts
	_ func(g string, old []int) (string, api.Errno)                   = glyph.Renumber
	_ func(g string) (int, api.Errno)                                 = glyph.Points

	_ func(t string, n int) ([]api.Chars, api.Errno)     = cmap.Read
	_ func(l []api.Chars, n int) bool                    = cmap.Good
	_ func(l []api.Chars, c int) int                     = cmap.Find
	_ func(l []api.Chars, wide bool) (string, api.Errno) = cmap.Build

	_ func(s string) (api.Face, api.Errno)                 = face.Load
	_ func(f api.Face) (string, api.Errno)                 = face.Save
	_ func(f api.Face) api.Errno                           = face.Check
	_ func(f api.Face, l []int) ([]int, int, api.Errno)    = face.Show
	_ func(f api.Face, glyphs []int, size int) (int, bool) = face.Long

	_ func(f api.Face, used []int) ([]int, api.Errno)           = subset.Close
	_ func(f api.Face, used []int) (api.Face, []int, api.Errno) = subset.Make
	_ func(old []int, glyph int) (int, bool)                    = subset.Place

	_ func(m api.Metrics) (api.Obj, api.Errno) = unimap.Widths
	_ func(o api.Obj) ([]int, api.Errno)       = unimap.ReadWidths
	_ func(f api.Face) []api.Pair              = unimap.Pairs
	_ func(l []api.Pair) (string, api.Errno)   = unimap.Write
	_ func(s string) ([]api.Pair, api.Errno)   = unimap.Read

	_ func(l []api.Mark) api.Errno           = emit.Check
	_ func(l []api.Mark) (string, api.Errno) = emit.Emit
	_ func(a, b []api.Mark) bool             = emit.Same

	_ func(s string) ([]api.Mark, api.Errno) = interp.Run

	_ func(s string) ([]api.Token, int, api.Errno) = marks.Scan
	_ func(l []api.Token) (string, api.Errno)      = marks.Print
	_ func(s string) (string, api.Errno)           = marks.Escape

	_ func(s string) (api.Node, int, api.Errno)    = tree.Parse
	_ func(n api.Node) (string, api.Errno)         = tree.Print
	_ func(n api.Node) []string                    = tree.Words
	_ func(n api.Node, name string) (string, bool) = tree.Attr
	_ func(a, b api.Node) bool                     = tree.Same

	_ func(s string) ([]api.Rule, int, api.Errno) = sheet.Parse
	_ func(l []api.Rule) (string, api.Errno)      = sheet.Print
	_ func(x api.Selector) [3]int                 = sheet.Weight
	_ func(x api.Selector, path []api.Facts) bool = sheet.Match
	_ func(a, b []api.Rule) bool                  = sheet.Same

	_ func() api.Style                                                 = style.First
	_ func(n api.Node) api.Facts                                       = style.Facts
	_ func(l []api.Rule, path []api.Facts, prop int) (int, bool)       = style.Winner
	_ func(l []api.Rule, path []api.Facts, parent api.Style) api.Style = style.Of
	_ func(l []api.Rule, n api.Node) []api.Style                       = style.All

	_ func(patterns, exceptions string) (*hyphen.Set, int, api.Errno) = hyphen.Compile
	_ func(*hyphen.Set, []int) []int                                  = (*hyphen.Set).Levels
	_ func(*hyphen.Set, []int) []int                                  = (*hyphen.Set).Points
	_ func(*hyphen.Set) int                                           = (*hyphen.Set).Nodes

	_ func(faces []api.Face, h *hyphen.Set, runs []api.Run, p api.Para) ([]api.Item, int, api.Errno) = items.Build
	_ func(l []api.Item) bool                                                                        = items.Good
	_ func(l []api.Item) (int, int)                                                                  = items.Sizes

	_ func(t, s int) int                          = badness.Bad
	_ func(t, s int, shrunk bool) int             = badness.Class
	_ func(l, b, p int) int                       = badness.Line
	_ func(a, b int, f, g bool, x api.Params) int = badness.More
	_ func(x api.Params) bool                     = badness.Good

	_ func(l []api.Item, i int) bool                           = breaks.Legal
	_ func(l []api.Item, a, b int) (int, int, int)             = breaks.Measure
	_ func(l []api.Item, a, b int, x api.Params) bool          = breaks.Fits
	_ func(l []api.Item, at []int, x api.Params) (int, bool)   = breaks.Cost
	_ func(l []api.Item, x api.Params) ([]int, int, bool)      = breaks.Best
	_ func(l []api.Item, x api.Params) []int                   = breaks.First
	_ func(l []api.Item, x api.Params) (api.Breaks, api.Errno) = breaks.Break

	_ func(l []api.Item, at []int, width, align int) ([]api.Line, api.Errno) = lines.Set
	_ func(l []api.Item, a, b int, width int, align int) ([]int, bool)       = lines.Glue

	_ func(rows [][]api.Cell) ([]api.Spot, int, api.Errno)                = grid.Place
	_ func(l []api.Spot, cols, rows int) bool                             = grid.Good
	_ func(l []api.Spot, wants []api.Want, cols, avail int) ([]int, bool) = grid.Columns
	_ func(l []api.Spot, heights []int, rows int) ([]int, bool)           = grid.Heights
	_ func(l []api.Spot, rows int) []bool                                 = grid.Locks

	_ func(l []api.VItem) bool                         = pages.Good
	_ func(l []api.VItem, a, b int) int                = pages.Height
	_ func(l []api.VItem, at []int, h int) (int, bool) = pages.Cost
	_ func(l []api.VItem, h int) ([]int, int, bool)    = pages.Best
	_ func(l []api.VItem, h int) ([]int, api.Errno)    = pages.Break
	_ func(l []api.Block, keep int) []api.VItem        = pages.Flow
	_ func(n, leading, widow, orphan int) api.Block    = pages.Para

	_ func(template string) (int, api.Errno)                                      = furnish.Check
	_ func(template string, page, pages int, title []int) ([]int, int, api.Errno) = furnish.Expand
	_ func(l []api.Head, page int) []int                                          = furnish.Latest
	_ func(left, room, wide int) (int, bool)                                      = furnish.Center

	_ func(levels []int) []int                                    = anchors.Parents
	_ func(levels []int) []api.Knot                               = anchors.Knots
	_ func(levels []int) (int, int, int)                          = anchors.Roots
	_ func(l api.Line) []api.Frag                                 = anchors.Frags
	_ func(names []string, want []string) ([]int, int, api.Errno) = anchors.Resolve

	_ func(b api.Book) api.Errno             = docgen.Check
	_ func(b api.Book) (api.File, api.Errno) = docgen.Make
	_ func(x int) api.Obj                    = docgen.Number

	_ func(s string) (api.Book, api.Errno)     = check.View
	_ func(b api.Book, page int) ([]int, bool) = check.Text
	_ func(a, b api.Book) bool                 = check.Same

	_ func(x api.Setup) bool                                                          = press.Good
	_ func(src string, fonts []string, x api.Setup) (api.Book, []api.Note, api.Fault) = press.Book
	_ func(src string, fonts []string, x api.Setup) (string, []api.Note, api.Fault)   = press.Compile
)
