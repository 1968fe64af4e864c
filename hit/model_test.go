package hit

import (
	"maps"
	"math"
	"math/rand"
	"slices"
	"testing"

	"valance/api"
	"valance/flow"
	"valance/paint"
	"valance/place"
	"valance/tree"
)

// model reckons as the document's words tell it, each time that it is asked. No list
// of nodes is made for it: of any two boxes it tells which one is painted first, by
// the layers that they are in.
type model struct {
	t     *tree.Tree
	m     map[int]api.Rect
	spots map[int]place.Spot
}

func (m model) counts(id int) bool {
	_, ok := m.m[id]
	return ok && m.t.Has(id) && (id == 0 || m.counts(m.t.Up(id)))
}

// ids are all boxes that count, in the tree's order.
func (m model) ids() []int {
	return slices.DeleteFunc(m.t.Order(), func(id int) bool { return !m.counts(id) })
}

func (m model) isLayer(id int) bool {
	s := m.t.Style(id)
	return s.Layer || s.Position == api.PosFixed || s.Position == api.PosSticky
}

// way is the layers that a box is in, from the root on, and itself.
func (m model) way(id int) []int {
	if id == 0 {
		return []int{0}
	}
	up := m.t.Up(id)
	for up != 0 && !m.isLayer(up) {
		up = m.t.Up(up)
	}
	return append(m.way(up), id)
}

// level is where in its layer a box is painted: layers below 0, what is no layer,
// and other layers; and by Z.
func (m model) level(id int) [2]int {
	s := m.t.Style(id)
	switch {
	case !m.isLayer(id):
		return [2]int{1, 0}
	case !s.Layer:
		return [2]int{2, 0}
	case s.Z < 0:
		return [2]int{0, s.Z}
	}
	return [2]int{2, s.Z}
}

// ahead tells whether one of two boxes is painted ahead of the other one.
func (m model) ahead(a, b int) bool {
	one, other := m.way(a), m.way(b)
	for len(one) > 0 && len(other) > 0 && one[0] == other[0] {
		one, other = one[1:], other[1:]
	}
	if len(one) == 0 || len(other) == 0 {
		return len(one) < len(other)
	}
	x, y := m.level(one[0]), m.level(other[0])
	if x == y {
		order := m.t.Order()
		return slices.Index(order, one[0]) < slices.Index(order, other[0])
	}
	return slices.Compare(x[:], y[:]) < 0
}

// within tells whether a place is in a rectangle.
func within(r api.Rect, x, y int) bool {
	return r.X <= x && x < r.X+r.W && r.Y <= y && y < r.Y+r.H
}

func (m model) may(id, x, y int) bool {
	spot, ok := m.spots[id]
	return ok && m.t.Has(id) && !m.t.Style(id).NoHit && within(spot.Rect, x, y) && within(spot.Clip, x, y)
}

func (m model) at(x, y int) int {
	hit := -1
	for _, id := range m.ids() {
		if m.may(id, x, y) && (hit == -1 || m.ahead(hit, id)) {
			hit = id
		}
	}
	return hit
}

// sameOrder holds Nodes and Order against the model.
func (m model) sameOrder(t *testing.T) {
	t.Helper()
	want := m.ids()
	nodes, ids := Nodes(m.t, m.m)
	if !slices.Equal(ids, want) || len(nodes) != len(ids) || !paint.Valid(nodes) {
		t.Fatalf("%v are told, want %v, as %v, of\n%s", ids, want, nodes, tell(m.t))
	}
	for at, id := range ids {
		node := paint.Node{Up: slices.Index(ids, m.t.Up(id)), Layer: m.isLayer(id), Z: m.level(id)[1]}
		if nodes[at] != node {
			t.Fatalf("%d is told as %v, want %v, of\n%s", id, nodes[at], node, tell(m.t))
		}
	}
	slices.SortFunc(want, func(a, b int) int {
		switch {
		case m.ahead(a, b):
			return -1
		case m.ahead(b, a):
			return 1
		}
		return 0
	})
	if got := Order(m.t, m.m); !slices.Equal(got, want) {
		t.Fatalf("painted are %v, want %v, of\n%s", got, want, tell(m.t))
	}
}

// sameAt holds At and May against the model. It tells whether some box hides another
// one there.
func (m model) sameAt(t *testing.T, x, y int) bool {
	t.Helper()
	hit := At(m.t, m.m, m.spots, p(x, y))
	if want := m.at(x, y); hit != want {
		t.Fatalf("%d is hit at %d, %d, want %d, in %v of\n%s", hit, x, y, want, m.spots, tell(m.t))
	}
	may := []int{}
	for id := -2; id < 14; id++ {
		if May(m.t, m.spots, id, p(x, y)) {
			may = append(may, id)
		}
		if want := m.may(id, x, y); slices.Contains(may, id) != want {
			t.Fatalf("May of %d at %d, %d is not %v, in %v of\n%s", id, x, y, want, m.spots, tell(m.t))
		}
	}
	return m.holds(t, hit, may)
}

// holds holds what is hit against "What holds", by paint itself: it may be hit, and
// nothing that may is painted behind it. It tells whether there is more that may.
func (m model) holds(t *testing.T, hit int, may []int) bool {
	t.Helper()
	nodes, ids := Nodes(m.t, m.m)
	may = slices.DeleteFunc(may, func(id int) bool { return !slices.Contains(ids, id) })
	if hit == -1 && len(may) == 0 {
		return false
	}
	if !slices.Contains(may, hit) {
		t.Fatalf("%d is hit, of %v that may be, of\n%s", hit, may, tell(m.t))
	}
	for _, id := range may {
		if id != hit && !paint.Before(nodes, slices.Index(ids, id), slices.Index(ids, hit)) {
			t.Fatalf("%d is hit, but %d is painted behind it, of\n%s", hit, id, tell(m.t))
		}
	}
	return len(may) > 1
}

// chance makes trees of any boxes.
type chance struct{ *rand.Rand }

func (c chance) oneIn(n int) bool { return c.Intn(n) == 0 }

func (c chance) rect() api.Rect {
	return r(c.Intn(30)-10, c.Intn(30)-10, c.Intn(40)-5, c.Intn(40)-5)
}

func (c chance) style() api.Style {
	s := api.Style{
		Display: api.Display(c.Intn(3)), Overflow: api.Overflow(c.Intn(3)),
		Layer: c.oneIn(3), Z: c.Intn(5) - 2, NoHit: c.oneIn(6),
		Content: [2]int{c.Intn(30), c.Intn(30)},
	}
	if c.oneIn(2) {
		s.Position = api.Position(c.Intn(5))
	}
	if c.oneIn(12) {
		s.Display = api.ShowNone
	}
	for side := range 4 {
		if c.oneIn(2) {
			s.Inset[side] = px(c.Intn(20) - 5)
		}
		if c.oneIn(4) {
			s.Border[side] = c.Intn(4)
		}
	}
	if c.oneIn(2) {
		s.Width, s.Height = px(c.Intn(40)), px(c.Intn(40))
	}
	return s
}

// tree is of boxes of which some were moved, and some are gone again, so that their
// numbers are in no order.
func (c chance) tree(boxes int) *tree.Tree {
	t := tree.New()
	t.Set(0, c.style())
	for t.Len() < boxes {
		up := c.Intn(boxes)
		id, err := t.Add(up, c.Intn(len(t.Kids(up))+1))
		if err != api.OK {
			continue
		}
		t.Set(id, c.style())
		t.Move(c.Intn(boxes), c.Intn(boxes), 0)
		if c.oneIn(6) {
			t.Remove(c.Intn(boxes))
		}
	}
	return t
}

// any are rectangles and spots of boxes of which some are left out, and of some that
// there are not.
func (c chance) any(boxes int) (map[int]api.Rect, map[int]place.Spot) {
	m, spots := map[int]api.Rect{}, map[int]place.Spot{}
	for id := -1; id < boxes+2; id++ {
		if !c.oneIn(9) {
			m[id] = c.rect()
		}
		if !c.oneIn(9) {
			spots[id] = place.Spot{Rect: c.rect(), Clip: c.rect()}
		}
	}
	return m, spots
}

func TestAsTheWordsTell(t *testing.T) {
	c := chance{rand.New(rand.NewSource(1))}
	hidden := 0
	for range 6000 {
		boxes := 1 + c.Intn(9)
		x := c.tree(boxes)
		w, h := c.Intn(50), c.Intn(50)
		laid := flow.Lay(x, w, h)
		offsets := map[int]complex128{c.Intn(boxes): p(c.Intn(20), c.Intn(20)), 0: p(c.Intn(20), c.Intn(20))}
		m, spots := c.any(boxes)
		for _, one := range []model{{x, laid, place.Spots(x, laid, offsets, w, h)}, {x, m, spots}} {
			one.sameOrder(t)
			for range 12 {
				if one.sameAt(t, c.Intn(36)-4, c.Intn(36)-4) {
					hidden++
				}
			}
		}
	}
	if hidden < 3000 {
		t.Error("so few boxes hide another one that nothing is held:", hidden)
	}
}

// TestAnything holds that every call ends, and none panics.
func TestAnything(t *testing.T) {
	c := chance{rand.New(rand.NewSource(2))}
	numbers := []int{math.MinInt, math.MinInt + 1, -most - 1, -most, -1, 0, 1, 2, most - 1, most, most + 1, math.MaxInt - 1, math.MaxInt}
	number := func() int { return numbers[c.Intn(len(numbers))] }
	floats := []float64{math.NaN(), math.Inf(1), math.Inf(-1), math.MaxFloat64, 0.5, -1, 0, 7, most, 2 * most, math.Copysign(0, -1)}
	float := func() float64 { return floats[c.Intn(len(floats))] }
	for range 4000 {
		x := c.tree(1 + c.Intn(9))
		m, spots := map[int]api.Rect{0: {}}, map[int]place.Spot{}
		for id := -1; id < x.Len(); id++ {
			m[id] = r(number(), number(), number(), number())
			spots[id] = place.Spot{Rect: r(number(), number(), number(), number()), Clip: r(number(), number(), number(), number())}
		}
		point := complex(float(), float())
		order := Order(x, m)
		if hit := At(x, m, spots, point); hit != -1 && !May(x, spots, hit, point) || len(order) > x.Len() {
			t.Fatal(hit, point, order)
		}
		for _, id := range numbers {
			May(x, spots, id, point)
		}
	}
}

// full is as many boxes as there may be, one at each level, and all others in the
// last one of these: each at one place, in one as large as that.
func full(style func(id int) api.Style) scene {
	x := scene{nil, tree.New(), map[int]api.Rect{}, map[int]place.Spot{}}
	for up := 0; x.x.Len() < api.MaxBoxes; {
		id, _ := x.x.Add(up, 0)
		x.x.Set(id, style(id))
		if x.x.Depth(id) < api.MaxDepth-1 {
			up = id
		}
	}
	for _, id := range x.x.Order() {
		x.m[id] = r(0, 0, 9, 9)
		x.spots[id] = place.Spot{Rect: r(0, 0, 9, 9), Clip: r(0, 0, 9, 9)}
	}
	return x
}

// TestFull holds that trees as deep, and as large, as they may be are told soon.
func TestFull(t *testing.T) {
	for name, c := range map[string]struct {
		style func(id int) api.Style
		want  int
	}{
		"plain ones":   {func(int) api.Style { return with() }, 63},
		"layers":       {func(id int) api.Style { return with(layer, z(id)) }, api.MaxBoxes - 1},
		"layers below": {func(id int) api.Style { return with(layer, z(-id)) }, 63},
		"fixed ones":   {func(int) api.Style { return with(at(api.PosFixed)) }, 63},
		"nothing":      {func(int) api.Style { return with(noHit) }, 0},
	} {
		x := full(c.style)
		for range 10 {
			if got := At(x.x, x.m, x.spots, p(4, 4)); got != c.want {
				t.Fatalf("%s: %d, want %d", name, got, c.want)
			}
		}
		order := Order(x.x, x.m)
		if ids := slices.Sorted(maps.Keys(x.m)); !slices.Equal(slices.Sorted(slices.Values(order)), ids) {
			t.Fatalf("%s: %d are painted", name, len(order))
		}
	}
}
