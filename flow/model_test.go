package flow

import (
	"maps"
	"math/rand"
	"testing"

	"valance/api"
	"valance/fix"
	"valance/flex"
	"valance/justify"
	"valance/length"
	"valance/lines"
	"valance/margin"
	"valance/tree"
)

// model reckons as the document's words tell it: whatever is laid is laid whole,
// each time that the words say so, and nothing is kept.
type model struct {
	t    *tree.Tree
	w, h int
}

// shape is a box that is laid: how large it is with its edges, and where all is
// that is in it, each from where the border of its own box begins.
type shape struct {
	w, h int
	in   map[int]api.Rect
}

func (m model) all() map[int]api.Rect {
	got := map[int]api.Rect{}
	if !m.shown(0) {
		return got
	}
	s := m.lay(0, max(m.w, 0), max(m.h, 0), -1, -1)
	s.in[0] = api.Rect{W: s.w, H: s.h}
	for id, r := range s.in {
		got[id] = api.Rect{X: fix.Cut(r.X), Y: fix.Cut(r.Y), W: fix.Cut(r.W), H: fix.Cut(r.H)}
	}
	return got
}

func (m model) shown(id int) bool {
	if !m.t.Has(id) || m.t.Style(id).Display == api.ShowNone {
		return false
	}
	return id == 0 || m.shown(m.t.Up(id))
}

func (m model) kids(id int, may func(p api.Position) bool) []int {
	l := []int{}
	for _, kid := range m.t.Kids(id) {
		if m.shown(kid) && may(m.t.Style(kid).Position) {
			l = append(l, kid)
		}
	}
	return l
}

func inFlow(p api.Position) bool { return p != api.PosAbsolute && p != api.PosFixed }

func (m model) flows(id int) []int { return m.kids(id, inFlow) }

func edge(s api.Style, side int) int { return s.Padding[side] + s.Border[side] }

func edgesX(s api.Style) int { return edge(s, api.Left) + edge(s, api.Right) }

func edgesY(s api.Style) int { return edge(s, api.Top) + edge(s, api.Bottom) }

func marginAt(s api.Style, side, base int) int {
	if side == api.Top || side == api.Bottom {
		base = -1
	}
	return length.Of(s.Margin[side], base, 0)
}

func marginsX(s api.Style, base int) int {
	return marginAt(s, api.Left, base) + marginAt(s, api.Right, base)
}

func marginsY(s api.Style) int { return marginAt(s, api.Top, -1) + marginAt(s, api.Bottom, -1) }

func (m model) lay(id, roomW, roomH, setW, setH int) shape {
	s := m.t.Style(id)
	wide := 0
	if setW >= 0 {
		wide = max(0, setW-edgesX(s))
	} else if length.Fixed(s.Width, roomW) {
		wide = length.Limit(length.Of(s.Width, roomW, 0), s.MinWidth, s.MaxWidth, roomW)
	} else {
		wide = length.Limit(max(0, roomW-marginsX(s, roomW)-edgesX(s)), s.MinWidth, s.MaxWidth, roomW)
	}
	high := -1
	if setH >= 0 {
		high = max(0, setH-edgesY(s))
	} else if length.Fixed(s.Height, roomH) {
		high = length.Limit(length.Of(s.Height, roomH, 0), s.MinHeight, s.MaxHeight, roomH)
	}
	rects, long := m.within(id, wide, high)
	m.relative(rects, wide, high)
	if high < 0 {
		if len(rects.own) == 0 {
			long = s.Content[1]
		}
		high = length.Limit(max(0, long), s.MinHeight, s.MaxHeight, roomH)
	}
	out := shape{w: wide + edgesX(s), h: high + edgesY(s), in: rects.deep}
	for kid, r := range rects.own {
		r.X += edge(s, api.Left)
		r.Y += edge(s, api.Top)
		out.in[kid] = r
	}
	m.apart(id, out)
	return out
}

// parts are where what flows in a box is, and all that is in that.
type parts struct {
	m         model
	own, deep map[int]api.Rect
}

func (p parts) put(id, x, y int, s shape) {
	p.own[id] = api.Rect{X: x, Y: y, W: s.w, H: s.h}
	maps.Copy(p.deep, s.in)
}

func (m model) within(id, wide, high int) (parts, int) {
	p := parts{m, map[int]api.Rect{}, map[int]api.Rect{}}
	if len(m.flows(id)) == 0 {
		return p, 0
	}
	switch m.t.Style(id).Display {
	case api.ShowRow:
		return p, m.row(p, id, wide, high)
	case api.ShowColumn:
		return p, m.column(p, id, wide, high)
	}
	return p, m.block(p, id, wide, high)
}

func (m model) relative(p parts, wide, high int) {
	for id, r := range p.own {
		s := m.t.Style(id)
		if s.Position != api.PosRelative {
			continue
		}
		if length.Fixed(s.Inset[api.Left], wide) {
			r.X += length.Of(s.Inset[api.Left], wide, 0)
		} else {
			r.X -= length.Of(s.Inset[api.Right], wide, 0)
		}
		if length.Fixed(s.Inset[api.Top], high) {
			r.Y += length.Of(s.Inset[api.Top], high, 0)
		} else {
			r.Y -= length.Of(s.Inset[api.Bottom], high, 0)
		}
		p.own[id] = r
	}
}

func (m model) open(id, side int) bool {
	s := m.t.Style(id)
	if id == 0 || m.t.Style(m.t.Up(id)).Display != api.ShowBlock || !inFlow(s.Position) {
		return false
	}
	if s.Display != api.ShowBlock || s.Overflow != api.OverVisible || edge(s, side) != 0 {
		return false
	}
	return side == api.Top || s.Height == api.Len{} && s.MinHeight == api.Len{}
}

// together is what the margins at a side of a box come to, all that come together
// there told by a walk down the tree.
func (m model) together(id, side int) int {
	l := []int{}
	for {
		l = append(l, marginAt(m.t.Style(id), side, -1))
		flows := m.flows(id)
		if !m.open(id, side) || len(flows) == 0 {
			return margin.Collapse(l)
		}
		id = flows[0]
		if side == api.Bottom {
			id = flows[len(flows)-1]
		}
	}
}

func (m model) block(p parts, id, wide, high int) int {
	first, y, before := 0, 0, 0 // y is from where the first one begins
	for i, kid := range m.flows(id) {
		k, s := m.lay(kid, wide, high, -1, -1), m.t.Style(kid)
		top := m.together(kid, api.Top)
		if i > 0 {
			y = fix.Add(y, margin.Collapse([]int{before, top}))
		} else if !m.open(id, api.Top) {
			first = top
		}
		x, _ := margin.Auto(wide, k.w, s.Margin[api.Left], s.Margin[api.Right], wide)
		p.put(kid, x, first+y, k)
		y = fix.Add(y, k.h)
		before = m.together(kid, api.Bottom)
	}
	if m.open(id, api.Bottom) {
		return first + y
	}
	return first + y + before
}

func modelItem(s api.Style, low, most api.Len, base, room int) flex.Item {
	x := flex.Item{Base: length.Of(s.Basis, room, base), Low: length.Limit(0, low, api.Len{}, room), High: 1 << 20, Grow: s.Grow, Shrink: s.Shrink}
	if length.Fixed(most, room) {
		x.High = max(0, length.Of(most, room, 0))
	}
	return x
}

func (m model) row(p parts, id, wide, high int) int {
	s := m.t.Style(id)
	kids := m.flows(id)
	items, longs := []flex.Item{}, []int{}
	for _, kid := range kids {
		k := m.t.Style(kid)
		x := modelItem(k, k.MinWidth, k.MaxWidth, length.Of(k.Width, wide, k.Content[0]), wide)
		items = append(items, x)
		longs = append(longs, flex.Clamp(x, x.Base)+marginsX(k, wide)+edgesX(k))
	}
	y := 0
	broken := lines.Break(longs, wide, s.Gap, s.Wrap)
	for n, line := range broken {
		lineHigh := -1
		if len(broken) == 1 {
			lineHigh = high
		}
		if n > 0 {
			y += s.Gap
		}
		y += m.line(p, s, kids[line[0]:line[1]], items[line[0]:line[1]], wide, high, lineHigh, y)
	}
	return y
}

func (m model) line(p parts, s api.Style, kids []int, items []flex.Item, wide, high, lineHigh, y int) int {
	room := wide - s.Gap*(len(kids)-1)
	for _, kid := range kids {
		room -= marginsX(m.t.Style(kid), wide) + edgesX(m.t.Style(kid))
	}
	sizes := flex.Sizes(items, room)
	shapes, most, outer := []shape{}, 0, []int{}
	for i, kid := range kids {
		k := m.t.Style(kid)
		x := m.lay(kid, wide, high, sizes[i]+edgesX(k), -1)
		shapes = append(shapes, x)
		most = max(most, x.h+marginsY(k))
		outer = append(outer, x.w+marginsX(k, wide))
	}
	if lineHigh < 0 {
		lineHigh = most
	}
	starts := justify.Starts(s.Justify, outer, wide, s.Gap)
	for i, kid := range kids {
		k, x := m.t.Style(kid), shapes[i]
		if s.Align == api.AlignStretch && !length.Fixed(k.Height, high) {
			inner := length.Limit(max(0, lineHigh-marginsY(k)-edgesY(k)), k.MinHeight, k.MaxHeight, high)
			x = m.lay(kid, wide, high, sizes[i]+edgesX(k), inner+edgesY(k))
		}
		across := justify.Across(s.Align, x.h+marginsY(k), lineHigh)
		p.put(kid, starts[i]+marginAt(k, api.Left, wide), y+across+marginAt(k, api.Top, -1), x)
	}
	return lineHigh
}

func (m model) column(p parts, id, wide, high int) int {
	s := m.t.Style(id)
	kids := m.flows(id)
	items, sets := []flex.Item{}, []int{}
	room := high - s.Gap*(len(kids)-1)
	for _, kid := range kids {
		k := m.t.Style(kid)
		set := -1
		if s.Align != api.AlignStretch && !length.Fixed(k.Width, wide) {
			set = length.Limit(k.Content[0], k.MinWidth, k.MaxWidth, wide) + edgesX(k)
		}
		sets = append(sets, set)
		x := m.lay(kid, wide, high, set, -1)
		items = append(items, modelItem(k, k.MinHeight, k.MaxHeight, x.h-edgesY(k), high))
		room -= marginsY(k) + edgesY(k)
	}
	sizes := []int{}
	for _, x := range items {
		sizes = append(sizes, flex.Clamp(x, x.Base))
	}
	if high >= 0 && len(kids) <= 64 {
		sizes = flex.Sizes(items, room)
	}
	shapes, outer := []shape{}, []int{}
	for i, kid := range kids {
		k := m.t.Style(kid)
		x := m.lay(kid, wide, high, sets[i], sizes[i]+edgesY(k))
		shapes = append(shapes, x)
		outer = append(outer, x.h+marginsY(k))
	}
	long := lines.Long(outer, s.Gap)
	if high < 0 {
		high = long
	}
	starts := justify.Starts(s.Justify, outer, high, s.Gap)
	for i, kid := range kids {
		k, x := m.t.Style(kid), shapes[i]
		left := justify.Across(s.Align, x.w+marginsX(k, wide), wide) + marginAt(k, api.Left, wide)
		p.put(kid, left, starts[i]+marginAt(k, api.Top, -1), x)
	}
	return long
}

// apart puts what doesn't flow in a box, that is laid, to what is in it.
func (m model) apart(id int, out shape) {
	s := m.t.Style(id)
	for _, kid := range m.kids(id, func(p api.Position) bool { return !inFlow(p) }) {
		k := m.t.Style(kid)
		portX, portY, padX, padY := s.Border[api.Left], s.Border[api.Top], s.Padding[api.Left], s.Padding[api.Top]
		portW, portH := out.w-portX-s.Border[api.Right], out.h-portY-s.Border[api.Bottom]
		if k.Position == api.PosFixed {
			portX, portY, padX, padY, portW, portH = 0, 0, 0, 0, max(m.w, 0), max(m.h, 0)
		}
		isLeft, isRight := length.Fixed(k.Inset[api.Left], portW), length.Fixed(k.Inset[api.Right], portW)
		isTop, isBottom := length.Fixed(k.Inset[api.Top], portH), length.Fixed(k.Inset[api.Bottom], portH)
		left, right := length.Of(k.Inset[api.Left], portW, 0), length.Of(k.Inset[api.Right], portW, 0)
		top, bottom := length.Of(k.Inset[api.Top], portH, 0), length.Of(k.Inset[api.Bottom], portH, 0)
		setW, setH := -1, -1
		if !length.Fixed(k.Width, portW) {
			setW = length.Limit(k.Content[0], k.MinWidth, k.MaxWidth, portW) + edgesX(k)
			if isLeft && isRight {
				setW = max(0, portW-left-right-marginsX(k, portW))
			}
		}
		if !length.Fixed(k.Height, portH) && isTop && isBottom {
			setH = max(0, portH-top-bottom-marginsY(k))
		}
		x := m.lay(kid, portW, portH, setW, setH)
		r := api.Rect{X: padX + marginAt(k, api.Left, portW), Y: padY + marginAt(k, api.Top, -1), W: x.w, H: x.h}
		if isLeft {
			r.X = left + marginAt(k, api.Left, portW)
		} else if isRight {
			r.X = portW - right - marginAt(k, api.Right, portW) - x.w
		}
		if isTop {
			r.Y = top + marginAt(k, api.Top, -1)
		} else if isBottom {
			r.Y = portH - bottom - marginAt(k, api.Bottom, -1) - x.h
		}
		r.X += portX
		r.Y += portY
		out.in[kid] = r
		maps.Copy(out.in, x.in)
	}
}

// chance makes styles and trees, as far as it is to go.
type chance struct {
	*rand.Rand
	far int // the greatest number of a length
}

func (c chance) oneIn(n int) bool { return c.Intn(n) == 0 }

// length is Auto mostly; least is what a Px is at the least.
func (c chance) length(least int) api.Len {
	switch c.Intn(6) {
	case 0, 1:
		return px(least + c.Intn(c.far-least+1))
	case 2:
		return per(c.Intn(13000))
	}
	return api.Len{}
}

func (c chance) sides(least int) [4]api.Len {
	l := [4]api.Len{}
	for side := range l {
		if c.oneIn(2) {
			l[side] = c.length(least)
		}
	}
	return l
}

func (c chance) style() api.Style {
	s := api.Style{Content: [2]int{c.Intn(60), c.Intn(40)}, Gap: c.Intn(4)}
	s.Display = []api.Display{0, 0, 0, 1, 1, 2, 2, 3}[c.Intn(8)]
	if c.oneIn(2) {
		s.Position = api.Position(c.Intn(5))
	}
	if c.oneIn(4) {
		s.Overflow = api.Overflow(c.Intn(3))
	}
	s.Width, s.Height = c.length(0), c.length(0)
	if c.oneIn(3) {
		s.MinWidth, s.MaxWidth = c.length(-5), c.length(-5)
	}
	if c.oneIn(3) {
		s.MinHeight, s.MaxHeight = c.length(-5), c.length(-5)
	}
	s.Margin, s.Inset = c.sides(-c.far/3), c.sides(-c.far/3)
	for side := range s.Padding {
		if c.oneIn(5) {
			s.Padding[side], s.Border[side] = c.Intn(5), c.Intn(3)
		}
	}
	if c.oneIn(2) {
		s.Grow, s.Shrink, s.Basis = c.Intn(4), c.Intn(4), c.length(-5)
	}
	s.Justify, s.Align, s.Wrap = api.Justify(c.Intn(6)), api.Align(c.Intn(4)), c.oneIn(2)
	return s
}

func (c chance) tree(boxes int) *tree.Tree {
	t := tree.New()
	for id := range boxes {
		s := c.style()
		if id == 0 {
			if s.Display == api.ShowNone && !c.oneIn(8) {
				s.Display = api.ShowBlock
			}
		} else {
			up := c.Intn(id)
			for t.Depth(up) > 3 {
				up = t.Up(up)
			}
			t.Add(up, c.Intn(len(t.Kids(up))+1))
		}
		if t.Set(id, s) != api.OK {
			panic("a style that may not be")
		}
	}
	return t
}

// TestAsTheWordsTell holds what is laid against what the words of the document
// come to, at trees of all kinds.
func TestAsTheWordsTell(t *testing.T) {
	for _, far := range []int{20, 90, 400, api.Most} {
		c := chance{rand.New(rand.NewSource(int64(far))), far}
		for range 6000 {
			x := c.tree(1 + c.Intn(9))
			w, h := c.Intn(240)-20, c.Intn(240)-20
			if c.oneIn(50) {
				w, h = c.Int(), -c.Int()
			}
			got, want := Lay(x, w, h), model{x, w, h}.all()
			if !maps.Equal(got, want) {
				t.Fatal(far, w, h, got, want, tell(x))
			}
			for id := range got {
				if got[id].W < 0 || got[id].H < 0 {
					t.Fatal("less than nothing:", got)
				}
			}
		}
	}
}
