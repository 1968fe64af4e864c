package place

import (
	"math"
	"math/rand"
	"testing"

	"valance/api"
	"valance/flow"
	"valance/point"
	"valance/rect"
	"valance/stick"
	"valance/tree"
)

// model reckons as the document's words tell it, of each box from the root down to
// it, each time that it is asked; rectangles are reckoned by their ends, without a
// limit.
type model struct {
	t       *tree.Tree
	m       map[int]api.Rect
	offsets map[int]complex128
	w, h    int
}

func (m model) counts(id int) bool {
	_, ok := m.m[id]
	return ok && m.t.Has(id) && (id == 0 || m.counts(m.t.Up(id)))
}

// taken are all rectangles that are not empty, of what is in a box that it takes,
// but its own, from where it begins; and how many boxes they are of, these with
// empty ones.
func (m model) taken(id int) ([]api.Rect, int) {
	l, boxes := []api.Rect{}, 0
	for _, kid := range m.t.Kids(id) {
		s := m.t.Style(kid)
		if !m.counts(kid) || s.Position == api.PosFixed {
			continue
		}
		boxes++
		in := []api.Rect{}
		if s.Overflow == api.OverVisible {
			in, _ = m.taken(kid)
		}
		for _, one := range append(in, r(0, 0, m.m[kid].W, m.m[kid].H)) {
			if one.W > 0 && one.H > 0 {
				l = append(l, r(one.X+m.m[kid].X, one.Y+m.m[kid].Y, one.W, one.H))
			}
		}
	}
	return l, boxes
}

// around is the least rectangle that all are in; a zero one of none.
func around(l []api.Rect) api.Rect {
	if len(l) == 0 {
		return api.Rect{}
	}
	left, top, right, bottom := l[0].X, l[0].Y, l[0].X, l[0].Y
	for _, one := range l {
		left, top = min(left, one.X), min(top, one.Y)
		right, bottom = max(right, one.X+one.W), max(bottom, one.Y+one.H)
	}
	return r(left, top, right-left, bottom-top)
}

func (m model) reach(id int) api.Rect {
	if !m.counts(id) {
		return api.Rect{}
	}
	own := r(0, 0, max(0, m.m[id].W), max(0, m.m[id].H))
	l, boxes := m.taken(id)
	if m.t.Style(id).Overflow != api.OverVisible || boxes == 0 {
		return own
	}
	if own.W > 0 && own.H > 0 {
		l = append(l, own)
	}
	return around(l)
}

// port is a rectangle without a style's border.
func (m model) port(r api.Rect, id int) api.Rect {
	b := m.t.Style(id).Border
	return api.Rect{X: r.X + b[3], Y: r.Y + b[0], W: max(0, r.W-b[3]-b[1]), H: max(0, r.H-b[0]-b[2])}
}

// most is how far a box can be scrolled, across and down.
func (m model) most(id int) (int, int) {
	s := m.t.Style(id)
	if !m.counts(id) || s.Overflow != api.OverScroll {
		return 0, 0
	}
	l, _ := m.taken(id)
	all, port := around(l), m.port(m.m[id], id)
	return max(0, all.X+all.W-s.Border[3]-port.W), max(0, all.Y+all.H-s.Border[0]-port.H)
}

// scrolled is how far a box is scrolled, across and down.
func (m model) scrolled(id int) (int, int) {
	x, y := m.most(id)
	by := m.offsets[id]
	return min(max(0, int(real(by))), x), min(max(0, int(imag(by))), y)
}

func (m model) scroller(id int) int {
	up := m.t.Up(id)
	if up == -1 || m.t.Style(up).Overflow == api.OverScroll {
		return up
	}
	return m.scroller(up)
}

// meet is what both have, by their ends; a zero one, if that is nothing.
func meet(a, b api.Rect) api.Rect {
	left, top := max(a.X, b.X), max(a.Y, b.Y)
	right, bottom := min(a.X+a.W, b.X+b.W), min(a.Y+a.H, b.Y+b.H)
	if right <= left || bottom <= top {
		return api.Rect{}
	}
	return r(left, top, right-left, bottom-top)
}

func (m model) spot(id int) Spot {
	s, at, window := m.t.Style(id), m.m[id], r(0, 0, max(0, m.w), max(0, m.h))
	if id == 0 || s.Position == api.PosFixed {
		return Spot{at, window}
	}
	up := m.t.Up(id)
	in := m.spot(up)
	x, y := m.scrolled(up)
	got := Spot{r(in.Rect.X+at.X-x, in.Rect.Y+at.Y-y, at.W, at.H), in.Clip}
	if m.t.Style(up).Overflow != api.OverVisible {
		got.Clip = meet(in.Clip, m.port(in.Rect, up))
	}
	if s.Position == api.PosSticky {
		x, y := m.shift(id, got.Rect, in.Rect, x, y)
		got.Rect.X, got.Rect.Y = got.Rect.X+x, got.Rect.Y+y
	}
	return got
}

// shift is how far a box at at sticks, in one at up, that is scrolled by x, y.
func (m model) shift(id int, at, up api.Rect, x, y int) (int, int) {
	s := m.t.Style(m.t.Up(id))
	hold := r(up.X+s.Border[3]+s.Padding[3]-x, up.Y+s.Border[0]+s.Padding[0]-y,
		max(0, up.W-s.Border[3]-s.Padding[3]-s.Border[1]-s.Padding[1]),
		max(0, up.H-s.Border[0]-s.Padding[0]-s.Border[2]-s.Padding[2]))
	port := r(0, 0, max(0, m.w), max(0, m.h))
	if to := m.scroller(id); to != -1 {
		port = m.port(m.spot(to).Rect, to)
	}
	by := stick.Both(at, hold, port, stick.Sides(m.t.Style(id).Inset, port.W, port.H))
	return int(real(by)), int(imag(by))
}

// same holds all calls against the model.
func (m model) same(t *testing.T) {
	t.Helper()
	spots := Spots(m.t, m.m, m.offsets, m.w, m.h)
	for id := -2; id < m.t.Len()+3; id++ {
		x, y := m.most(id)
		if got, want := Most(m.t, m.m, id), complex(float64(x), float64(y)); got != want {
			t.Fatalf("Most of %d = %v, want %v, in %v of\n%s", id, got, want, m.m, tell(m.t))
		}
		if got, want := Reach(m.t, m.m, id), m.reach(id); got != want {
			t.Fatalf("Reach of %d = %v, want %v, in %v of\n%s", id, got, want, m.m, tell(m.t))
		}
		if got, want := Scroller(m.t, id), m.scroller(id); got != want {
			t.Fatalf("Scroller of %d = %d, want %d, of\n%s", id, got, want, tell(m.t))
		}
		got, ok := spots[id]
		if ok != m.counts(id) || ok && got != m.spot(id) {
			t.Fatalf("the spot of %d is %v, want %v, in %v, scrolled by %v, of\n%s", id, got, m.spot(id), m.m, m.offsets, tell(m.t))
		}
	}
	m.holds(t, spots)
}

// holds holds spots against "What holds", and P4: nothing is seen beyond the window,
// or beyond what the one that it is in is seen in; and what sticks doesn't leave what
// it is in, where it was within that.
func (m model) holds(t *testing.T, spots map[int]Spot) {
	t.Helper()
	window := rect.Of(0, 0, m.w, m.h)
	for id, spot := range spots {
		if !rect.In(spot.Clip, window) {
			t.Fatalf("%d is seen in %v, beyond the window, of\n%s", id, spot.Clip, tell(m.t))
		}
		up, s := m.t.Up(id), m.t.Style(id)
		if id == 0 || s.Position == api.PosFixed {
			continue
		}
		if !rect.In(spot.Clip, spots[up].Clip) {
			t.Fatalf("%d is seen in %v, beyond %v, of\n%s", id, spot.Clip, spots[up].Clip, tell(m.t))
		}
		x, y := m.scrolled(up)
		hold := rect.Move(rect.Inset(spots[up].Rect, flow.Edges(m.t.Style(up))), point.Of(-x, -y))
		still := rect.Move(rect.Move(m.m[id], point.Of(spots[up].Rect.X, spots[up].Rect.Y)), point.Of(-x, -y))
		if s.Position != api.PosSticky && spot.Rect != still || rect.In(still, hold) && !rect.In(spot.Rect, hold) {
			t.Fatalf("%d leaves %v, of\n%s", id, hold, tell(m.t))
		}
	}
}

// chance makes trees of any boxes.
type chance struct{ *rand.Rand }

func (c chance) oneIn(n int) bool { return c.Intn(n) == 0 }

func (c chance) length(least, most int) api.Len {
	switch c.Intn(3) {
	case 0:
		return px(least + c.Intn(most-least))
	case 1:
		return per(c.Intn(8000))
	}
	return api.Len{}
}

func (c chance) style() api.Style {
	s := api.Style{
		Display: api.Display(c.Intn(3)), Position: api.Position(c.Intn(5)), Overflow: api.Overflow(c.Intn(3)),
		Content: [2]int{c.Intn(120), c.Intn(120)},
	}
	if c.oneIn(3) {
		s.Position = api.PosSticky
	}
	if c.oneIn(12) {
		s.Display = api.ShowNone
	}
	for side := range 4 {
		s.Inset[side] = c.length(-10, 60)
		if c.oneIn(3) {
			s.Margin[side] = px(c.Intn(30) - 10)
		}
		if c.oneIn(3) {
			s.Border[side], s.Padding[side] = c.Intn(9), c.Intn(9)
		}
	}
	if c.oneIn(2) {
		s.Width, s.Height = c.length(0, 150), c.length(0, 150)
	}
	return s
}

func (c chance) tree(boxes int) *tree.Tree {
	t := tree.New()
	t.Set(0, c.style())
	for t.Len() < boxes {
		up := c.Intn(t.Len())
		id, _ := t.Add(up, c.Intn(len(t.Kids(up))+1))
		t.Set(id, c.style())
	}
	return t
}

// offsets are some of boxes, some that there are not among them, and some beyond
// what they may be.
func (c chance) offsets(boxes int) map[int]complex128 {
	offsets := map[int]complex128{}
	for id := -1; id < boxes+2; id++ {
		if !c.oneIn(4) {
			offsets[id] = point.Of(c.Intn(150)-30, c.Intn(150)-30)
		}
	}
	return offsets
}

// rects are any, of boxes of which some are left out, and of some that there are not.
func (c chance) rects(boxes int) map[int]api.Rect {
	m := map[int]api.Rect{}
	for id := -1; id < boxes+2; id++ {
		if !c.oneIn(9) {
			m[id] = r(c.Intn(90)-30, c.Intn(90)-30, c.Intn(100)-10, c.Intn(100)-10)
		}
	}
	return m
}

func TestAsTheWordsTell(t *testing.T) {
	c := chance{rand.New(rand.NewSource(1))}
	for range 8000 {
		boxes := 1 + c.Intn(9)
		x := c.tree(boxes)
		w, h := c.Intn(200)-5, c.Intn(200)-5
		model{x, flow.Lay(x, w, h), c.offsets(boxes), w, h}.same(t)
		model{x, c.rects(boxes), c.offsets(boxes), w, h}.same(t)
	}
}

// TestScrolledAlike holds that what is scrolled moves all in it alike: but what
// sticks, or is fixed, and what is in that.
func TestScrolledAlike(t *testing.T) {
	c := chance{rand.New(rand.NewSource(2))}
	moved := 0
	for range 9000 {
		boxes := 2 + c.Intn(9)
		x := c.tree(boxes)
		m, offsets := flow.Lay(x, 100, 90), c.offsets(boxes)
		id := c.Intn(boxes)
		offsets[id] = 0
		still := Spots(x, m, offsets, 100, 90)
		most := Most(x, m, id)
		by := point.Of(c.Intn(point.X(most)+1), c.Intn(point.Y(most)+1))
		offsets[id] = by
		for one, spot := range Spots(x, m, offsets, 100, 90) {
			want := still[one].Rect
			switch in, loose := apart(x, id, one); {
			case loose && in:
				continue
			case in:
				want = rect.Move(want, -by)
				moved++
			}
			if spot.Rect != want {
				t.Fatalf("%d is at %v, want %v, as %d is scrolled by %v, of\n%s", one, spot.Rect, want, id, by, tell(x))
			}
		}
	}
	if moved < 2000 {
		t.Error("so few boxes are scrolled that nothing is held:", moved)
	}
}

// apart tells whether a box is in another one, and whether it, or one between both,
// sticks, or is fixed.
func apart(x *tree.Tree, id, one int) (in, loose bool) {
	for one != id && one != -1 {
		at := x.Style(one).Position
		loose = loose || at == api.PosSticky || at == api.PosFixed
		one = x.Up(one)
		in = one == id
	}
	return in, loose
}

// TestAnything holds that every call ends, none panics, and nothing goes beyond the
// limit that is not told so.
func TestAnything(t *testing.T) {
	c := chance{rand.New(rand.NewSource(3))}
	numbers := []int{math.MinInt, math.MinInt + 1, -most - 1, -most, -1, 0, 1, most - 1, most, most + 1, math.MaxInt - 1, math.MaxInt}
	number := func() int { return numbers[c.Intn(len(numbers))] }
	floats := []float64{math.NaN(), math.Inf(1), math.Inf(-1), math.MaxFloat64, math.SmallestNonzeroFloat64, 0.5, -1, 7, most, 2 * most, math.Copysign(0, -1)}
	float := func() float64 { return floats[c.Intn(len(floats))] }
	for range 4000 {
		boxes := 1 + c.Intn(9)
		x := c.tree(boxes)
		m, offsets := map[int]api.Rect{0: {}}, map[int]complex128{}
		for id := -1; id < boxes+1; id++ {
			m[id] = r(number(), number(), number(), number())
			offsets[id] = complex(float(), float())
		}
		w, h := number(), number()
		for id, spot := range Spots(x, m, offsets, w, h) {
			if !rect.In(spot.Clip, rect.Of(0, 0, w, h)) || id != 0 && x.Style(id).Position != api.PosFixed && rect.Of(spot.Rect.X, spot.Rect.Y, 0, 0) != r(spot.Rect.X, spot.Rect.Y, 0, 0) {
				t.Fatal(id, spot)
			}
		}
		for _, id := range append(numbers, 2, 3, 4, 5) {
			if most := Most(x, m, id); !point.Whole(most) || real(most) < 0 || imag(most) < 0 {
				t.Fatal(id, most)
			}
			if got := Reach(x, m, id); rect.Of(got.X, got.Y, got.W, got.H) != got {
				t.Fatal(id, got)
			}
			Scroller(x, id)
			s := c.style()
			s.Border = [4]int{number(), number(), number(), number()}
			if got := Port(m[id], s); rect.Of(got.X, got.Y, got.W, got.H) != got {
				t.Fatal(id, got)
			}
		}
	}
}

// TestDeep holds that trees as deep, and as large, as they may be are told soon: how
// far a box is scrolled is gone for in all that is in it.
func TestDeep(t *testing.T) {
	for over, step := range map[api.Overflow]int{api.OverVisible: 1, api.OverScroll: 0} {
		x := tree.New()
		m, offsets := map[int]api.Rect{0: r(0, 0, 100, 100)}, map[int]complex128{}
		up := 0
		for x.Len() < api.MaxBoxes {
			// One box at each level, and all others in the last one of these.
			id, _ := x.Add(up, len(x.Kids(up)))
			x.Set(id, with(sticks(px(1), api.Len{}, api.Len{}, px(1)), func(s *api.Style) { s.Overflow = over }))
			m[id], offsets[id] = r(1, 1, 100, 100), 1+1i
			if x.Depth(id) < api.MaxDepth-1 {
				up = id
			}
		}
		got := Spots(x, m, offsets, 200, 200)
		if len(got) != x.Len() || x.Depth(x.Len()-1) != api.MaxDepth-1 {
			t.Fatal(len(got), x.Depth(x.Len()-1))
		}
		for id, spot := range got {
			// Each one that scrolls takes back what it is from the one that it is in.
			at := min(1, x.Depth(id)) + step*max(0, x.Depth(id)-1)
			if spot.Rect != r(at, at, 100, 100) {
				t.Fatal(over, id, spot.Rect, at)
			}
		}
	}
}

// TestWide holds that a scroller with as many boxes in it as there may be is told
// soon: its kids are all moved by what is gone for once.
func TestWide(t *testing.T) {
	x := newScene(t, with(scrolls), r(0, 0, 10, 10))
	for id := 1; id < api.MaxBoxes; id++ {
		x.add(0, with(), r(id, 2*id, 10, 10))
	}
	x.most("the last one's end", 0, 4095+8190i)
	for range 20 {
		got := Spots(x.x, x.m, map[int]complex128{0: 9000 + 5i}, 10, 10)
		if want := r(7-4095, 14-5, 10, 10); got[7].Rect != want || len(got) != api.MaxBoxes {
			t.Fatal(got[7], want)
		}
	}
}
