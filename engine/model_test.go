package engine

import (
	"maps"
	"math"
	"math/rand"
	"slices"
	"testing"

	"valance/api"
	"valance/flow"
	"valance/hit"
	"valance/place"
	"valance/tree"
)

// model reckons as the document's words tell it: all is gone for anew each time that
// it is asked, anchors and stops by rules of its own.
type model struct {
	t       *tree.Tree
	w, h    int
	offsets map[int]point2
	laid    map[int]api.Rect // as the tree, and the window, are now; nil, if that isn't known
}

// point2 is how far across, and down.
type point2 struct{ x, y int }

func newModel(w, h int) *model { return &model{t: tree.New(), w: w, h: h, offsets: map[int]point2{}} }

// then is the model as it is now, to be asked later.
func (m *model) then() *model {
	return &model{t: m.t.Clone(), w: m.w, h: m.h, offsets: maps.Clone(m.offsets)}
}

func (m *model) rects() map[int]api.Rect {
	if m.laid == nil {
		m.laid = flow.Lay(m.t, m.w, m.h)
	}
	return m.laid
}

func (m *model) spots() map[int]place.Spot {
	offsets := map[int]complex128{}
	for id, by := range m.offsets {
		offsets[id] = complex(float64(by.x), float64(by.y))
	}
	return place.Spots(m.t, m.rects(), offsets, m.w, m.h)
}

func (m *model) has(id int) bool {
	_, ok := m.rects()[id]
	return ok
}

func (m *model) isScroller(id int) bool {
	return m.has(id) && m.t.Style(id).Overflow == api.OverScroll
}

func (m *model) most(id int) point2 {
	most := place.Most(m.t, m.rects(), id)
	return point2{int(real(most)), int(imag(most))}
}

// scroller is the nearest scroller above a box, and whether something fixed is
// between.
func (m *model) scroller(id int) (int, bool) {
	fixed := false
	for id > 0 {
		fixed = fixed || m.t.Style(id).Position == api.PosFixed
		id = m.t.Up(id)
		if m.t.Style(id).Overflow == api.OverScroll {
			return id, fixed
		}
	}
	return -1, fixed
}

func (m *model) inside(id int) []int {
	rects, l := m.rects(), []int{}
	if m.t.Style(id).Overflow != api.OverScroll {
		return l
	}
	for _, one := range m.t.Order() {
		if _, ok := rects[one]; !ok || one == 0 {
			continue
		}
		if up, fixed := m.scroller(one); up == id && !fixed {
			l = append(l, one)
		}
	}
	return l
}

// portHigh is how high a scroller is within its border.
func (m *model) portHigh(id int) int {
	b := m.t.Style(id).Border
	return max(0, m.rects()[id].H-b[api.Top]-b[api.Bottom])
}

// places are from where to where boxes are in a scroller.
func (m *model) places(id int) map[int][2]int {
	spots, l := m.spots(), map[int][2]int{}
	top := spots[id].Rect.Y + m.t.Style(id).Border[api.Top]
	for in, spot := range spots {
		begins := spot.Rect.Y - top + m.offsets[id].y
		l[in] = [2]int{begins, begins + spot.Rect.H}
	}
	return l
}

// anchor is the anchor of a scroller, and from where on its place is; -1 of none.
func (m *model) anchor(id int) (int, int) {
	from := m.offsets[id].y
	if !m.isScroller(id) || m.t.Style(id).NoAnchor || from <= 0 {
		return -1, 0
	}
	return m.taken(id, m.inside(id), m.places(id), [2]int{from, from + m.portHigh(id)})
}

// taken is what is taken first of the kids of a box that are inside a scroller.
func (m *model) taken(up int, inside []int, places map[int][2]int, port [2]int) (int, int) {
	for _, kid := range inside {
		s := m.t.Style(kid)
		if m.t.Up(kid) != up || s.NoAnchor || s.Position == api.PosAbsolute || s.Position == api.PosSticky {
			continue
		}
		at := places[kid]
		if max(at[0], port[0]) >= min(at[1], port[1]) {
			continue
		}
		if at[0] < port[0] || at[1] > port[1] {
			if in, begins := m.taken(kid, inside, places, port); in != -1 {
				return in, begins
			}
		}
		return kid, at[0]
	}
	return -1, 0
}

// stops are where a scroller may rest.
func (m *model) stops(id int) []int {
	l, places, port := []int{}, m.places(id), m.portHigh(id)
	for _, in := range m.inside(id) {
		at := places[in]
		stop := 0
		switch m.t.Style(in).Edge {
		case api.EdgeNone:
			continue
		case api.EdgeStart:
			stop = at[0]
		case api.EdgeCenter:
			stop = int(math.Floor(float64(at[0]+at[1]-port) / 2))
		case api.EdgeEnd:
			stop = at[1] - port
		}
		if 0 <= stop && stop <= m.most(id).y {
			l = append(l, stop)
		}
	}
	return l
}

func (m *model) put(id int, by point2) {
	most := m.most(id)
	m.offsets[id] = point2{min(max(0, by.x), most.x), min(max(0, by.y), most.y)}
}

func (m *model) snap(id int) {
	now, best, kind := m.offsets[id], -1, m.t.Style(id).Snap
	for _, stop := range m.stops(id) {
		if best == -1 || distance(stop, now.y) < distance(best, now.y) {
			best = stop
		}
	}
	if best != -1 && (kind == api.SnapMandatory || kind == api.SnapProximity && distance(best, now.y) <= 6400) {
		m.offsets[id] = point2{now.x, best}
	}
}

func distance(a, b int) int { return max(a-b, b-a) }

func (m *model) settle(was *model) {
	for id := range m.offsets {
		if !m.isScroller(id) {
			m.offsets[id] = point2{}
		}
	}
	for _, id := range m.t.Order() {
		if !m.isScroller(id) {
			continue
		}
		m.put(id, m.offsets[id])
		one, begun := was.anchor(id)
		if up, _ := m.scroller(one); one != -1 && up == id && m.has(one) {
			begins := m.places(id)[one][0]
			m.put(id, point2{m.offsets[id].x, was.offsets[id].y + begins - begun})
		}
		m.snap(id)
	}
}

func (m *model) do(o api.Op) api.Answer {
	was := m.then()
	m.laid = nil
	a := api.Answer{}
	switch o.Kind {
	case api.OpAdd:
		a.N, a.Err = m.t.Add(o.A, o.B)
	case api.OpRemove:
		a.N, a.Err = m.t.Remove(o.A)
	case api.OpMove:
		a.Err = m.t.Move(o.A, o.B, o.C)
	case api.OpStyle:
		a.Err = m.t.Set(o.A, o.Style)
	case api.OpView:
		if min(o.A, o.B) < 0 || max(o.A, o.B) > 1<<20 {
			a.Err = api.ErrArg
		} else {
			m.w, m.h = o.A, o.B
		}
	default:
		return m.ask(o)
	}
	m.laid = nil
	if a.Err == api.OK {
		m.settle(was)
	}
	return a
}

// ask does what changes no box.
func (m *model) ask(o api.Op) api.Answer {
	spot, seen := m.spots()[o.A]
	by, most := m.offsets[o.A], m.most(o.A)
	switch {
	case o.Kind == api.OpHit:
		return api.Answer{N: hit.At(m.t, m.rects(), m.spots(), p(o.A, o.B))}
	case o.Kind == api.OpRect && seen:
		return api.Answer{Rect: spot.Rect}
	case o.Kind < api.OpAdd || o.Kind > api.OpOffset:
		return api.Answer{Err: api.ErrArg}
	case o.Kind == api.OpRect || !m.t.Has(o.A):
		return api.Answer{Err: api.ErrNone}
	case o.Kind == api.OpOffset:
		return api.Answer{Rect: r(by.x, by.y, most.x, most.y)}
	case !m.isScroller(o.A):
		return api.Answer{Err: api.ErrArg}
	}
	m.put(o.A, point2{o.B, o.C})
	m.snap(o.A)
	return api.Answer{}
}

// chance makes operations.
type chance struct{ *rand.Rand }

func (c chance) oneIn(n int) bool { return c.Intn(n) == 0 }

func (c chance) style() api.Style {
	s := api.Style{
		Display: api.ShowBlock, Content: [2]int{c.Intn(40), c.Intn(30)},
		NoAnchor: c.oneIn(9), NoHit: c.oneIn(9),
	}
	if c.oneIn(3) {
		s.Overflow, s.Height = api.OverScroll, px(20+c.Intn(30))
		s.Snap = api.SnapKind(max(0, c.Intn(5)-2))
	}
	if c.oneIn(3) {
		s.Height = px(c.Intn(60))
	}
	if c.oneIn(5) {
		s.Width = px(c.Intn(150))
	}
	if c.oneIn(3) {
		s.Position = api.Position(c.Intn(5))
		s.Inset[c.Intn(4)] = px(c.Intn(20) - 4)
	}
	if c.oneIn(4) {
		s.Edge = api.SnapAlign(c.Intn(4))
	}
	if c.oneIn(10) {
		s.Display = api.Display(c.Intn(4))
	}
	if c.oneIn(5) {
		s.Border[c.Intn(4)], s.Padding[c.Intn(4)], s.Margin[c.Intn(4)] = c.Intn(9), c.Intn(9), px(c.Intn(9)-3)
	}
	return s
}

// op is an operation that most often does something to a model.
func (c chance) op(m *model) api.Op {
	boxes := m.t.Len() + 1
	o := api.Op{Kind: api.OpKind(c.Intn(11) - 1), A: c.Intn(boxes), B: c.Intn(boxes), C: c.Intn(3)}
	switch {
	case c.oneIn(3):
		o.Kind = api.OpStyle
	case c.oneIn(3):
		o.Kind = api.OpScroll
	}
	switch o.Kind {
	case api.OpAdd:
		o.B = c.Intn(3)
	case api.OpRemove:
		if !c.oneIn(4) {
			o.A = -1
		}
	case api.OpStyle:
		o.Style = c.restyled(m.t.Style(o.A))
	case api.OpScroll:
		o.A, o.B, o.C = c.scroller(m, o.A), c.Intn(60)-10, c.Intn(90)-10
	case api.OpView, api.OpHit:
		o.A, o.B = c.Intn(150)-3, c.Intn(100)-3
	}
	if c.oneIn(40) {
		o.A = c.Int() - c.Int()
	}
	if c.oneIn(40) {
		o.B, o.C = c.Int()-c.Int(), c.Int()-c.Int()
	}
	return o
}

// restyled is a style with some of it changed, or another one; or none that may be.
func (c chance) restyled(s api.Style) api.Style {
	switch c.Intn(12) {
	case 0:
		return c.style()
	case 1:
		s.Gap = -1
	case 2:
		s.Edge = api.SnapAlign(c.Intn(4))
	case 3:
		s.Padding[api.Top] = c.Intn(9)
	case 4:
		s.Position = api.Position(c.Intn(5))
	case 5:
		s.Display = api.Display(c.Intn(4))
	default:
		s.Height = px(c.Intn(60))
	}
	return s
}

// scroller is a box that scrolls, most often, or a box.
func (c chance) scroller(m *model, box int) int {
	l := slices.DeleteFunc(m.t.Order(), func(id int) bool { return !m.isScroller(id) })
	if len(l) == 0 || c.oneIn(5) {
		return box
	}
	return l[c.Intn(len(l))]
}

// growing is an operation by which a tree comes to be: a box comes, and then has a
// style.
func (c chance) growing(m *model, step int) api.Op {
	boxes := m.t.Len()
	if step%2 == 0 {
		return api.Op{Kind: api.OpAdd, A: c.scroller(m, c.Intn(boxes))}
	}
	return api.Op{Kind: api.OpStyle, A: boxes - 1, Style: c.style()}
}

// count is how often what is to be held came about.
type count struct{ kept, held, rested, cut, wrong int }

// same holds an engine against the model.
func (m *model) same(t *testing.T, e *Engine) {
	t.Helper()
	rects := e.Rects()
	if !sameTree(e.Tree(), m.t) || !maps.Equal(rects, m.rects()) {
		t.Fatalf("the tree is\n%s\nand should be\n%s", tell(e.Tree()), tell(m.t))
	}
	for id := range 24 {
		by := e.Offset(id)
		if got := (point2{int(real(by)), int(imag(by))}); got != m.offsets[id] {
			t.Fatalf("%d is scrolled by %v, want %v, of\n%s", id, got, m.offsets[id], tell(m.t))
		}
		if got, want := Inside(e.Tree(), rects, id), m.inside(id); !slices.Equal(got, want) {
			t.Fatalf("inside %d are %v, want %v, of\n%s", id, got, want, tell(m.t))
		}
	}
	if !maps.Equal(e.Spots(), m.spots()) {
		t.Fatalf("%v, want %v, of\n%s", e.Spots(), m.spots(), tell(m.t))
	}
}

func sameTree(a, b *tree.Tree) bool {
	l := a.Order()
	return slices.Equal(l, b.Order()) && !slices.ContainsFunc(l, func(id int) bool {
		return a.Style(id) != b.Style(id) || a.Up(id) != b.Up(id)
	})
}

// holds holds an engine against "What holds", as far as the model tells what was
// ahead of a change.
func (m *model) holds(t *testing.T, e *Engine, was *model, o api.Op, c *count) {
	t.Helper()
	for _, id := range m.t.Order() {
		by, most := e.Offset(id), m.most(id)
		x, y := int(real(by)), int(imag(by))
		if x < 0 || y < 0 || x > most.x || y > most.y {
			t.Fatalf("%d is scrolled by %v, of at most %v", id, by, most)
		}
		if !m.isScroller(id) {
			continue
		}
		stops := m.stops(id)
		if m.t.Style(id).Snap == api.SnapMandatory && len(stops) > 0 && !m.sticks(id) {
			c.rested++
			if !slices.Contains(stops, y) {
				t.Fatalf("%d rests at %d, of %v", id, y, stops)
			}
		}
		one, begun := was.anchor(id)
		if up, fixed := m.scroller(one); o.Kind == api.OpScroll || one == -1 || up != id || fixed || !m.has(one) || m.sticks(id) || m.t.Style(id).Snap != api.SnapNone {
			continue
		}
		begins := m.places(id)[one][0]
		if y > 0 && y < most.y {
			c.kept++
			if begins-y != begun-was.offsets[id].y {
				t.Fatalf("the anchor of %d was at %d, and is at %d", id, begun-was.offsets[id].y, begins-y)
			}
			if begins != begun {
				c.held++
			}
		} else if want := was.offsets[id].y + begins - begun; want != y {
			c.cut++
			if y != min(max(want, 0), most.y) {
				t.Fatalf("%d is scrolled by %d, and could be by %d", id, y, want)
			}
		}
	}
}

// sticks tells whether something sticks that a scroller scrolls: where that is hangs
// on how far the scroller is scrolled.
func (m *model) sticks(id int) bool {
	return slices.ContainsFunc(m.inside(id), func(in int) bool { return m.t.Style(in).Position == api.PosSticky })
}

func TestModel(t *testing.T) {
	c := chance{rand.New(rand.NewSource(19))}
	n := count{}
	for range 200 {
		w, h := c.Intn(200), c.Intn(100)
		e, m := New(w, h), newModel(w, h)
		for step := range 90 {
			o := c.op(m)
			if step < 24 {
				o = c.growing(m, step)
			}
			was := m.then()
			got, want := e.Do(o), m.do(o)
			if got != want {
				t.Fatalf("%v answers %v, want %v, of\n%s", o, got, want, tell(was.t))
			}
			m.same(t, e)
			m.holds(t, e, was, o, &n)
			if got.Err != api.OK {
				n.wrong++
				was.same(t, e)
			}
		}
	}
	if n.kept < 1000 || n.held < 40 || n.rested < 1000 || n.cut < 40 || n.wrong < 1000 {
		t.Errorf("too little came about: %+v", n)
	}
	t.Logf("%+v", n)
}
