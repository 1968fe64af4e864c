package hit

import (
	"maps"
	"math"
	"slices"
	"strconv"
	"strings"
	"testing"

	"valance/api"
	"valance/flow"
	"valance/paint"
	"valance/place"
	"valance/point"
	"valance/record"
	"valance/tree"
)

const most = api.Most

func px(n int) api.Len { return api.Len{Kind: api.Px, N: n} }

func r(x, y, w, h int) api.Rect { return api.Rect{X: x, Y: y, W: w, H: h} }

func p(x, y int) complex128 { return point.Of(x, y) }

// with is a style that is changed by all of these, one behind another.
func with(changes ...func(s *api.Style)) api.Style {
	s := api.Style{}
	for _, change := range changes {
		change(&s)
	}
	return s
}

func at(position api.Position) func(s *api.Style) {
	return func(s *api.Style) { s.Position = position }
}

func layer(s *api.Style) { s.Layer = true }

func z(n int) func(s *api.Style) {
	return func(s *api.Style) { s.Z = n }
}

func noHit(s *api.Style) { s.NoHit = true }

// scene is boxes, where they are told to be laid, and where they are told to be
// seen: whatever the tests like, so that none hangs on how boxes are laid.
type scene struct {
	t     *testing.T
	x     *tree.Tree
	m     map[int]api.Rect
	spots map[int]place.Spot
}

// newScene is a root that is nowhere.
func newScene(t *testing.T) scene {
	return scene{t, tree.New(), map[int]api.Rect{0: {}}, map[int]place.Spot{}}
}

// add adds a box behind the other kids. It is nowhere in the window.
func (x scene) add(up int, changes ...func(s *api.Style)) int {
	x.t.Helper()
	id, err := x.x.Add(up, len(x.x.Kids(up)))
	if err != api.OK || x.x.Set(id, with(changes...)) != api.OK {
		x.t.Fatal("a box", err)
	}
	x.m[id] = api.Rect{}
	return id
}

// seen adds a box that is at 0 to 10, and seen wholly.
func (x scene) seen(up int, changes ...func(s *api.Style)) int {
	x.t.Helper()
	id := x.add(up, changes...)
	x.spots[id] = place.Spot{Rect: r(0, 0, 10, 10), Clip: r(0, 0, 100, 100)}
	return id
}

func (x scene) nodes(name string, nodes []paint.Node, ids ...int) {
	x.t.Helper()
	got, gotIDs := Nodes(x.x, x.m)
	if !slices.Equal(got, nodes) || !slices.Equal(gotIDs, ids) {
		x.t.Errorf("%s: %v of %v, want %v of %v", name, got, gotIDs, nodes, ids)
	}
}

func (x scene) order(name string, ids ...int) {
	x.t.Helper()
	if got := Order(x.x, x.m); !slices.Equal(got, ids) {
		x.t.Errorf("%s: %v, want %v", name, got, ids)
	}
}

func (x scene) hits(name string, p complex128, id int) {
	x.t.Helper()
	if got := At(x.x, x.m, x.spots, p); got != id {
		x.t.Errorf("%s: %d is hit at %v, want %d", name, got, p, id)
	}
}

func (x scene) may(name string, id int, p complex128, want bool) {
	x.t.Helper()
	if got := May(x.x, x.spots, id, p); got != want {
		x.t.Errorf("%s: May of %d at %v is %v", name, id, p, got)
	}
}

// tell is a tree as text.
func tell(t *tree.Tree) string {
	l := []string{}
	for _, id := range t.Order() {
		row := strconv.Itoa(id) + " in " + strconv.Itoa(t.Up(id)) + ":"
		for _, n := range record.Put(t.Style(id)) {
			row += " " + strconv.Itoa(n)
		}
		l = append(l, row)
	}
	return strings.Join(l, "\n")
}

func TestNodesByStyle(t *testing.T) {
	for _, c := range []struct {
		name  string
		style api.Style
		layer bool
		z     int
	}{
		{"a plain one", with(), false, 0},
		{"a Z that doesn't count", with(z(5)), false, 0},
		{"a Z below 0 that doesn't count", with(z(-5)), false, 0},
		{"a layer", with(layer), true, 0},
		{"a layer, by its Z", with(layer, z(5)), true, 5},
		{"a layer, by its Z below 0", with(layer, z(-5)), true, -5},
		{"the greatest Z", with(layer, z(1<<20)), true, 1 << 20},
		{"the least Z", with(layer, z(-1<<20)), true, -1 << 20},
		{"relative", with(at(api.PosRelative), z(5)), false, 0},
		{"absolute", with(at(api.PosAbsolute), z(5)), false, 0},
		{"fixed", with(at(api.PosFixed)), true, 0},
		{"fixed, its Z doesn't count", with(at(api.PosFixed), z(5)), true, 0},
		{"fixed, and a layer", with(at(api.PosFixed), layer, z(-5)), true, -5},
		{"sticky", with(at(api.PosSticky)), true, 0},
		{"sticky, its Z doesn't count", with(at(api.PosSticky), z(-5)), true, 0},
		{"sticky, and a layer", with(at(api.PosSticky), layer, z(5)), true, 5},
		{"relative, and a layer", with(at(api.PosRelative), layer, z(5)), true, 5},
		{"absolute, and a layer", with(at(api.PosAbsolute), layer, z(-5)), true, -5},
		{"what clips, can't be hit, or scrolls is none", api.Style{Overflow: api.OverScroll, NoHit: true, NoAnchor: true}, false, 0},
	} {
		x := newScene(t)
		id := x.add(0)
		if x.x.Set(0, c.style) != api.OK || x.x.Set(id, c.style) != api.OK {
			t.Fatal(c.name)
		}
		x.nodes(c.name, []paint.Node{{Up: -1, Layer: c.layer, Z: c.z}, {Up: 0, Layer: c.layer, Z: c.z}}, 0, id)
	}
}

// TestNodesUp holds that Up is a place among those that are told, not a number.
func TestNodesUp(t *testing.T) {
	x := newScene(t)
	for _, up := range []int{0, 0, 1, 1, 4, 2} {
		x.add(up)
	}
	up := func(ups ...int) []paint.Node {
		l := []paint.Node{}
		for _, up := range ups {
			l = append(l, paint.Node{Up: up})
		}
		return l
	}
	x.nodes("in the tree's order", up(-1, 0, 1, 1, 3, 0, 5), 0, 1, 3, 4, 5, 2, 6)
	delete(x.m, 3)
	x.nodes("without one that nothing is in", up(-1, 0, 1, 2, 0, 4), 0, 1, 4, 5, 2, 6)
	x.x.Move(1, 0, 1)
	x.nodes("moved behind", up(-1, 0, 1, 0, 3, 4), 0, 2, 6, 1, 4, 5)
	x.x.Move(4, 6, 0)
	x.nodes("moved below", up(-1, 0, 1, 2, 3, 0), 0, 2, 6, 4, 5, 1)
	x.x.Remove(6)
	x.nodes("what is gone is not told", up(-1, 0, 0), 0, 2, 1)
	x.add(2)
	x.nodes("a number that is free again", up(-1, 0, 1, 0), 0, 2, 4, 1)
}

// TestNodesOfWhatIsNot holds that what the tree has not, or m, is not told, and
// neither what is in it: it has no place that it could be below.
func TestNodesOfWhatIsNot(t *testing.T) {
	x := newScene(t)
	for _, up := range []int{0, 1, 2, 0} {
		x.add(up, at(api.PosFixed))
	}
	root, top, in := paint.Node{Up: -1}, paint.Node{Up: 0, Layer: true}, paint.Node{Up: 1, Layer: true}
	for _, id := range []int{-1, -2, 7, math.MinInt, math.MaxInt} {
		x.m[id] = r(0, 0, 9, 9)
	}
	x.nodes("no box of that number", []paint.Node{root, top, in, {Up: 2, Layer: true}, top}, 0, 1, 2, 3, 4)
	delete(x.m, 2)
	x.nodes("not what is in one that m has not", []paint.Node{root, top, top}, 0, 1, 4)
	delete(x.m, 1)
	x.m[2] = api.Rect{}
	x.nodes("however far above it that is", []paint.Node{root, top}, 0, 4)
	delete(x.m, 0)
	x.nodes("nothing without the root", nil)
	x.order("nothing without the root")
	x.m = nil
	x.nodes("nothing is told", nil)
	x.order("nothing is told")
	x.hits("nothing is told", 0, -1)
}

func TestOrder(t *testing.T) {
	x := newScene(t)
	x.order("the root alone", 0)
	x.add(0)
	x.add(0)
	x.add(1)
	x.order("plain ones", 0, 1, 3, 2)
	x.x.Set(1, with(layer))
	x.order("a layer, and what is in it", 0, 2, 1, 3)
	x.x.Set(1, with(z(-1)))
	x.order("a Z that doesn't count", 0, 1, 3, 2)
	x.x.Set(3, with(layer, z(-1)))
	x.order("a layer below a plain one goes behind that", 0, 3, 1, 2)
	x.x.Set(1, with(at(api.PosSticky)))
	x.order("but not behind a layer that it is in", 0, 2, 1, 3)
	x.x.Set(2, with(layer, z(1)))
	x.order("by Z", 0, 1, 3, 2)
	x.x.Set(2, with(at(api.PosFixed), z(-1)))
	x.order("of the same Z in order", 0, 1, 3, 2)
	x.x.Move(1, 0, 1)
	x.order("in the tree's, not by numbers", 0, 2, 1, 3)
	delete(x.m, 2)
	x.order("of those that m has", 0, 1, 3)
}

func TestMay(t *testing.T) {
	x := newScene(t)
	x.seen(0)
	x.spots[1] = place.Spot{Rect: r(10, 20, 30, 40), Clip: r(5, 25, 30, 50)} // both have 10 to 35, 25 to 60
	for _, c := range []struct {
		name string
		p    complex128
		want bool
	}{
		{"in the midst", p(20, 40), true},
		{"where its Rect begins across", p(10, 25), true},
		{"ahead of that", p(9, 25), false},
		{"where its Clip begins down", p(20, 25), true},
		{"ahead of that", p(20, 24), false},
		{"the last one across, of its Clip", p(34, 59), true},
		{"behind that", p(35, 59), false},
		{"the last one down, of its Rect", p(34, 59), true},
		{"behind that", p(34, 60), false},
		{"in its Rect alone", p(38, 50), false},
		{"in its Clip alone", p(7, 50), false},
		{"in none", p(-1, -1), false},
		{"as far as can be", p(math.MaxInt, math.MinInt), false},
	} {
		x.may(c.name, 1, c.p, c.want)
	}
}

// TestMayWhole holds that a point that is not Whole is at 0, 0, whatever its parts.
func TestMayWhole(t *testing.T) {
	x := newScene(t)
	x.seen(0)
	x.seen(0)
	x.spots[1] = place.Spot{Rect: r(0, 0, 1, 1), Clip: r(-5, -5, 50, 50)}
	x.spots[2] = place.Spot{Rect: r(1, 0, 40, 40), Clip: r(-5, -5, 50, 50)}
	nan, inf := math.NaN(), math.Inf(1)
	for _, p := range []complex128{20.5 + 20i, 20 + 20.5i, complex(nan, 20), complex(20, nan), complex(inf, 20), complex(20, -inf), complex(20, 2*most), complex(-2*most, 20)} {
		x.may("at 0, 0", 1, p, true)
		x.may("at 0, 0", 2, p, false)
		x.hits("at 0, 0", p, 1)
	}
	x.hits("a whole one", 20+20i, 2)
}

func TestMayNot(t *testing.T) {
	x := newScene(t)
	x.seen(0)
	x.seen(1)
	x.may("both", 1, 0, true)
	x.may("a spot, but none of that number", 0, 0, false)
	x.x.Set(1, with(noHit))
	x.may("NoHit", 1, 0, false)
	x.may("what is in one that is NoHit", 2, 0, true)
	x.x.Set(1, with(layer, z(-9), at(api.PosFixed)))
	x.may("whatever style else", 1, 0, true)
	x.m = nil
	x.may("whatever is laid", 1, 0, true)
	for _, id := range []int{-1, 3, math.MinInt, math.MaxInt} {
		x.may("neither tree nor spots", id, 0, false)
		x.spots[id] = x.spots[1]
		x.may("no box of that number", id, 0, false)
	}
	delete(x.spots, 1)
	x.may("a box, but no spot", 1, 0, false)
	x.spots[1] = place.Spot{Rect: r(0, 0, 10, 0), Clip: r(0, 0, 10, 10)}
	x.may("an empty Rect", 1, 0, false)
	x.spots[1] = place.Spot{Rect: r(0, 0, 10, 10)}
	x.may("an empty Clip", 1, 0, false)
	x.x.Remove(1)
	x.may("what is gone", 2, 0, false)
}

// TestAtOnePlace is the document's example, and what else is at one place.
func TestAtOnePlace(t *testing.T) {
	x := newScene(t)
	x.hits("nothing is seen", 0, -1)
	x.seen(0)
	x.hits("the one that is", 0, 1)
	x.seen(0)
	x.hits("the one behind in the tree", 0, 2)
	x.x.Move(1, 0, 1)
	x.hits("behind in the tree, not by its number", 0, 1)
	x.seen(2)
	x.hits("not what is in one ahead", 0, 1)
	x.x.Set(3, with(layer))
	x.hits("a layer", 0, 3)
	x.x.Set(1, with(layer))
	x.hits("of the same Z the one behind", 0, 1)
	x.x.Set(3, with(layer, z(1)))
	x.hits("a greater Z", 0, 3)
	x.x.Set(2, with(at(api.PosSticky)))
	x.hits("not beyond the layer that it is in", 0, 1)
	x.x.Set(1, with(layer, z(-1)))
	x.hits("a Z below 0", 0, 3)
	x.x.Set(1, with(at(api.PosFixed), z(-1)))
	x.hits("a Z that doesn't count", 0, 1)
}

func TestAtPassesBy(t *testing.T) {
	x := newScene(t)
	x.spots[0] = place.Spot{Rect: r(0, 0, 10, 10), Clip: r(0, 0, 10, 10)}
	for range 4 {
		x.seen(0)
	}
	x.hits("the last one", 0, 4)
	x.x.Set(4, with(noHit, layer, z(9)))
	x.hits("through one that is NoHit", 0, 3)
	x.spots[3] = place.Spot{Rect: r(0, 0, 10, 10), Clip: r(5, 0, 5, 10)}
	x.hits("one that is not seen there", p(4, 0), 2)
	x.hits("where it is seen", p(5, 0), 3)
	delete(x.spots, 3)
	x.hits("one without a spot", p(5, 0), 2)
	delete(x.m, 2)
	x.hits("one with a spot, that m has not", p(5, 0), 1)
	x.spots[1] = place.Spot{Rect: r(5, 5, 5, 5), Clip: r(0, 0, 10, 10)}
	x.hits("the root behind all", 0, 0)
	x.hits("what is in it", p(5, 5), 1)
	x.x.Set(0, with(noHit))
	x.hits("nothing else is there", 0, -1)
	x.hits("what is in one that is NoHit", p(5, 5), 1)
	for _, far := range []complex128{p(10, 5), p(5, 10), p(-1, 5), p(5, -1), p(most, most), p(math.MinInt, 5)} {
		x.hits("beyond all", far, -1)
	}
}

// TestAtAsLaid is of boxes that flow.Lay lays, and place.Spots scrolls.
func TestAtAsLaid(t *testing.T) {
	x := tree.New()
	for i, s := range []api.Style{
		{Overflow: api.OverScroll, Height: px(30)}, // 1
		{Height: px(20)}, // 2, in 1
		{Position: api.PosSticky, Inset: [4]api.Len{px(0)}, Height: px(10)}, // 3, in 1
		{Height: px(50)}, // 4, in 1
		{Position: api.PosFixed, Inset: [4]api.Len{{}, px(0), px(40), {}}, Content: [2]int{10, 10}, Z: 1000}, // 5, in 1
	} {
		id, _ := x.Add(min(i, 1), max(i-1, 0))
		x.Set(id, s)
	}
	m := flow.Lay(x, 100, 60)
	for by, want := range map[int][6]int{
		0:  {2, 2, 3, -1, 5, 5},
		15: {2, 3, 4, -1, 5, 5},
		20: {3, 4, 4, -1, 5, 5},
		25: {3, 4, 4, -1, 5, 5}, // 3 has to stay in what is 1's own
		99: {4, 4, 4, -1, 5, 5},
	} {
		spots := place.Spots(x, m, map[int]complex128{1: p(0, by)}, 100, 60)
		got := [6]int{}
		for i, point := range []complex128{p(50, 0), p(50, 12), p(50, 25), p(50, 31), p(90, 10), p(99, 19)} {
			got[i] = At(x, m, spots, point)
		}
		if got != want {
			t.Errorf("scrolled by %d: %v, want %v", by, got, want)
		}
	}
	x.Set(1, api.Style{Display: api.ShowNone})
	m = flow.Lay(x, 100, 60)
	if got := At(x, m, place.Spots(x, m, nil, 100, 60), p(50, 0)); got != -1 {
		t.Error("the root is not high, and nothing else is shown:", got)
	}
	x.Set(0, api.Style{Display: api.ShowNone})
	m = flow.Lay(x, 100, 60)
	if got := At(x, m, place.Spots(x, m, nil, 100, 60), 0); got != -1 {
		t.Error("nothing is shown:", got)
	}
}

// TestNoTree holds that a tree that New didn't make has no boxes.
func TestNoTree(t *testing.T) {
	m := map[int]api.Rect{0: r(0, 0, 9, 9)}
	spots := map[int]place.Spot{0: {Rect: r(0, 0, 9, 9), Clip: r(0, 0, 9, 9)}}
	for _, x := range []*tree.Tree{nil, {}} {
		nodes, ids := Nodes(x, m)
		if len(nodes)+len(ids)+len(Order(x, m)) != 0 || At(x, m, spots, 0) != -1 || May(x, spots, 0, 0) {
			t.Error(nodes, ids)
		}
	}
	x := tree.New()
	if At(x, nil, nil, 0) != -1 || May(x, nil, 0, 0) || At(x, m, nil, 0) != -1 || At(x, nil, spots, 0) != -1 {
		t.Error("maps that are nil")
	}
	if At(x, m, spots, 0) != 0 {
		t.Error("the root")
	}
}

// TestChangesNothing holds R3: no argument is changed, and no answer is shared.
func TestChangesNothing(t *testing.T) {
	x := newScene(t)
	for _, up := range []int{0, 1, 0, 3} {
		x.seen(up, layer, z(-up))
	}
	text, m, spots := tell(x.x), maps.Clone(x.m), maps.Clone(x.spots)
	nodes, ids := Nodes(x.x, x.m)
	order := Order(x.x, x.m)
	At(x.x, x.m, x.spots, 0)
	May(x.x, x.spots, 1, 0)
	if tell(x.x) != text || !maps.Equal(x.m, m) || !maps.Equal(x.spots, spots) {
		t.Error("an argument is changed")
	}
	wantNodes, wantIDs, wantOrder := slices.Clone(nodes), slices.Clone(ids), slices.Clone(order)
	clear(nodes)
	clear(ids)
	clear(order)
	x.nodes("as it was told", wantNodes, wantIDs...)
	x.order("as it was told", wantOrder...)
}
