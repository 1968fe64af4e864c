package place

import (
	"maps"
	"math"
	"strconv"
	"strings"
	"testing"

	"valance/api"
	"valance/flow"
	"valance/point"
	"valance/record"
	"valance/tree"
)

const most = api.Most

func px(n int) api.Len { return api.Len{Kind: api.Px, N: n} }

func per(n int) api.Len { return api.Len{Kind: api.Per, N: n} }

func r(x, y, w, h int) api.Rect { return api.Rect{X: x, Y: y, W: w, H: h} }

func p(x, y int) complex128 { return point.Of(x, y) }

// with is a style that is changed by all of these, one behind another.
func with(changes ...func(s *api.Style)) api.Style {
	s := api.Style{}
	for _, change := range changes {
		change(&s)
	}
	return s
}

func visible(*api.Style) {}

func clips(s *api.Style) { s.Overflow = api.OverClip }

func scrolls(s *api.Style) { s.Overflow = api.OverScroll }

func fixed(s *api.Style) { s.Position = api.PosFixed }

func absolute(s *api.Style) { s.Position = api.PosAbsolute }

// sticks sticks to these sides: top, right, bottom, left.
func sticks(inset ...api.Len) func(s *api.Style) {
	return func(s *api.Style) {
		s.Position = api.PosSticky
		copy(s.Inset[:], inset)
	}
}

func border(top, right, bottom, left int) func(s *api.Style) {
	return func(s *api.Style) { s.Border = [4]int{top, right, bottom, left} }
}

func padding(top, right, bottom, left int) func(s *api.Style) {
	return func(s *api.Style) { s.Padding = [4]int{top, right, bottom, left} }
}

// scene is boxes, and where they are told to be: whatever the tests like, so that
// no test hangs on how boxes are laid.
type scene struct {
	t *testing.T
	x *tree.Tree
	m map[int]api.Rect
}

func newScene(t *testing.T, s api.Style, at api.Rect) scene {
	t.Helper()
	x := scene{t, tree.New(), map[int]api.Rect{0: at}}
	if x.x.Set(0, s) != api.OK {
		t.Fatal("the root's style")
	}
	return x
}

// add adds a box behind the other kids.
func (x scene) add(up int, s api.Style, at api.Rect) int {
	x.t.Helper()
	id, err := x.x.Add(up, len(x.x.Kids(up)))
	if err != api.OK || x.x.Set(id, s) != api.OK {
		x.t.Fatal("a box", err)
	}
	x.m[id] = at
	return id
}

func (x scene) reach(name string, id int, want api.Rect) {
	x.t.Helper()
	if got := Reach(x.x, x.m, id); got != want {
		x.t.Errorf("%s: Reach of %d = %v, want %v", name, id, got, want)
	}
}

func (x scene) most(name string, id int, want complex128) {
	x.t.Helper()
	if got := Most(x.x, x.m, id); got != want {
		x.t.Errorf("%s: Most of %d = %v, want %v", name, id, got, want)
	}
}

// tell is a tree as text.
func tell(t *tree.Tree) string {
	l := []string{}
	for _, id := range t.Order() {
		row := strconv.Itoa(id) + " in " + strconv.Itoa(t.Up(id)) + ":"
		for _, n := range record.Put(t.Style(id)) {
			row += " " + strconv.Itoa(n)
		}
		l = append(l, row)
	}
	return strings.Join(l, "\n")
}

func TestPort(t *testing.T) {
	for _, c := range []struct {
		name    string
		r, want api.Rect
		s       api.Style
	}{
		{"no border", r(3, 4, 20, 30), r(3, 4, 20, 30), with()},
		{"each side", r(3, 4, 20, 30), r(11, 5, 10, 25), with(border(1, 2, 4, 8))},
		{"no padding", r(3, 4, 20, 30), r(3, 4, 20, 30), with(padding(1, 2, 4, 8))},
		{"a border as large", r(0, 0, 10, 10), r(4, 5, 0, 0), with(border(5, 6, 5, 4))},
		{"a larger one", r(0, 0, 10, 10), r(9, 9, 0, 0), with(border(9, 9, 9, 9))},
		{"an empty one", r(7, 8, 0, -5), r(8, 9, 0, 0), with(border(1, 1, 1, 1))},
		{"a border below 0", r(3, 4, 20, 30), r(2, 2, 24, 34), with(border(-2, -3, -2, -1))},
		{"beyond the limit", r(most, math.MinInt, math.MaxInt, 5), r(most, 3-most, most-4, 0), with(border(3, 2, 9, 2))},
		{"a border beyond it", r(0, 0, 9, 9), r(most, -most, 0, most), with(border(math.MinInt, 0, 0, math.MaxInt))},
	} {
		if got := Port(c.r, c.s); got != c.want {
			t.Errorf("%s: %v, want %v", c.name, got, c.want)
		}
	}
}

func TestScroller(t *testing.T) {
	x := newScene(t, with(), api.Rect{})
	for _, c := range []struct {
		up    int
		s     api.Style
		which int // id, as added, by one
		want  int
	}{
		{0, with(), 1, -1},
		{1, with(clips), 2, -1},
		{2, with(scrolls), 3, -1}, // it is not in itself
		{3, with(), 4, 3},
		{4, with(clips), 5, 3},
		{5, with(scrolls), 6, 3},
		{6, with(), 7, 6}, // the nearest one
		{3, with(fixed), 8, 3},
		{8, with(absolute), 9, 3}, // whatever is between
		{3, api.Style{Display: api.ShowNone}, 10, 3},
		{10, with(), 11, 3},
		{0, with(sticks()), 12, -1}, // beside them
	} {
		if id := x.add(c.up, c.s, api.Rect{}); id != c.which || Scroller(x.x, id) != c.want {
			t.Errorf("Scroller of %d = %d, want %d", id, Scroller(x.x, id), c.want)
		}
	}
	for _, id := range []int{0, 13, -1, -2, math.MinInt, math.MaxInt} {
		if got := Scroller(x.x, id); got != -1 {
			t.Errorf("Scroller of %d = %d, want -1", id, got)
		}
	}
	x.x.Set(0, with(scrolls))
	for id, want := range []int{-1, 0, 0, 0, 3, 3, 3, 6, 3, 3, 3, 3, 0, -1} {
		if got := Scroller(x.x, id); got != want {
			t.Errorf("Scroller of %d in a root that scrolls = %d, want %d", id, got, want)
		}
	}
}

func TestReachOfWhatIsIn(t *testing.T) {
	x := newScene(t, with(), r(7, 8, 100, 50))
	x.reach("alone, from where it begins itself", 0, r(0, 0, 100, 50))
	x.add(0, with(), r(10, 10, 20, 20))
	x.reach("what is in it", 0, r(0, 0, 100, 50))
	x.add(0, with(), r(90, 40, 20, 30))
	x.reach("what ends behind it", 0, r(0, 0, 110, 70))
	x.reach("a kid's own", 2, r(0, 0, 20, 30))
	x.add(2, with(), r(5, -60, 2, 10))
	x.reach("what begins ahead of it", 2, r(0, -60, 20, 90))
	x.reach("what is in that", 0, r(0, -20, 110, 90))
	x.add(3, with(absolute), r(-200, 0, 1, 1))
	x.reach("however deep it is", 0, r(-105, -20, 215, 90))
	x.add(0, with(sticks(px(900))), r(0, 80, 1, 1))
	x.reach("as it is laid, not as it sticks", 0, r(-105, -20, 215, 101))
}

func TestReachOfFixed(t *testing.T) {
	x := newScene(t, with(), r(0, 0, 10, 10))
	id := x.add(0, with(fixed), r(50, 50, 10, 10))
	x.add(id, with(), r(20, 20, 10, 10))
	x.reach("but what is fixed, and all in that", 0, r(0, 0, 10, 10))
	x.reach("of what is fixed", id, r(0, 0, 30, 30))
	y := newScene(t, with(fixed), r(0, 0, 10, 10))
	y.add(0, with(), r(5, 5, 10, 10))
	y.reach("a root that is fixed", 0, r(0, 0, 15, 15))
}

func TestReachOfWhatIsNotVisible(t *testing.T) {
	for _, over := range []func(*api.Style){clips, scrolls} {
		x := newScene(t, with(), r(0, 0, 10, 10))
		id := x.add(0, with(over), r(5, 6, 10, 10))
		x.add(id, with(), r(-20, 30, 10, 10))
		x.reach("no kid of what is not visible", id, r(0, 0, 10, 10))
		x.reach("only what is not visible itself", 0, r(0, 0, 15, 16))
	}
}

func TestReachOfWhatIsEmpty(t *testing.T) {
	x := newScene(t, with(), r(3, 3, 5, 0))
	x.reach("an empty one, without kids", 0, r(0, 0, 5, 0))
	a := x.add(0, with(), r(7, 7, 0, 4))
	x.reach("empty ones together", 0, r(0, 0, 0, 0))
	x.add(a, with(), r(2, 1, 3, 3))
	x.reach("what is in an empty one", a, r(2, 1, 3, 3))
	x.reach("however deep that is", 0, r(9, 8, 3, 3))
	x.m[0] = r(0, 0, 5, 5)
	x.m[2] = r(90, 90, 0, 3)
	x.reach("empty ones take nothing", 0, r(0, 0, 5, 5))
}

// TestReachOfWhatIsNot holds that what the tree has not, or m, counts for nothing,
// and neither what is in it.
func TestReachOfWhatIsNot(t *testing.T) {
	x := newScene(t, with(), r(0, 0, 10, 10))
	a := x.add(0, with(), r(10, 0, 10, 10))
	b := x.add(a, with(), r(10, 0, 10, 10))
	c := x.add(b, with(), r(10, 0, 10, 10))
	x.m[9], x.m[-1] = r(0, 0, 99, 99), r(0, 0, 88, 88)
	x.reach("all", 0, r(0, 0, 40, 10))
	for _, id := range []int{4, 9, -1, math.MinInt, math.MaxInt} {
		x.reach("what the tree has not", id, r(0, 0, 0, 0))
	}
	delete(x.m, b)
	x.reach("m has not the one in it", 0, r(0, 0, 20, 10))
	x.reach("m has not the one in it", a, r(0, 0, 10, 10))
	x.reach("m has it not", b, r(0, 0, 0, 0))
	x.reach("m has not the one that it is in", c, r(0, 0, 0, 0))
	x.m[b] = r(10, 0, 10, 10)
	delete(x.m, 0)
	for _, id := range []int{0, a, b, c} {
		x.reach("m has not the root", id, r(0, 0, 0, 0))
	}
}

func TestReachBeyondTheLimit(t *testing.T) {
	x := newScene(t, with(), r(0, 0, math.MaxInt, 5))
	x.reach("cut", 0, r(0, 0, most, 5))
	x.m[0] = r(0, 0, -3, math.MinInt)
	x.reach("no less than 0", 0, r(0, 0, 0, 0))
	x.m[0] = r(0, 0, 10, 10)
	x.add(0, with(), r(most-2, math.MinInt, 10, 10))
	x.reach("what ends beyond it", 0, r(0, -most, most, most))
}

// TestReachInOrder holds that kids are joined one behind another: two that begin at
// the limit are nothing together, but not each with another one.
func TestReachInOrder(t *testing.T) {
	edge, near := r(most, 0, 5, 50), r(1, 2, 3, 4)
	for _, c := range []struct {
		kids []api.Rect
		want api.Rect
	}{
		{[]api.Rect{edge, edge, near}, near},
		{[]api.Rect{edge, near, edge}, r(1, 0, 3, 50)},
		{[]api.Rect{near, edge, edge}, r(1, 0, 3, 50)},
	} {
		x := newScene(t, with(), r(0, 0, 0, 0))
		y := newScene(t, with(scrolls), r(0, 0, 0, 0))
		for _, kid := range c.kids {
			x.add(0, with(), kid)
			y.add(0, with(), kid)
		}
		x.reach("kids at the limit", 0, c.want)
		y.most("kids at the limit", 0, p(c.want.X+c.want.W, c.want.Y+c.want.H))
	}
}

// TestExample is the document's.
func TestExample(t *testing.T) {
	x := newScene(t, with(), r(0, 0, 100, 50))
	a := x.add(0, with(scrolls), r(0, 0, 100, 50))
	x.add(a, with(), r(0, 0, 100, 80))
	x.most("the document's example", a, 30i)
	y := tree.New()
	y.Set(0, api.Style{Overflow: api.OverScroll, Height: px(50)})
	y.Add(0, 0)
	y.Set(1, api.Style{Height: px(80)})
	if got := Most(y, flow.Lay(y, 100, 70), 0); got != 30i {
		t.Error("as it is laid", got)
	}
}

func TestMost(t *testing.T) {
	x := newScene(t, with(scrolls, border(1, 2, 4, 8), padding(3, 3, 3, 3)), r(70, 80, 110, 55)) // its port: 100, 50
	x.most("nothing in it", 0, 0)
	a := x.add(0, with(), r(8, 1, 100, 50))
	x.most("what is as large as its port", 0, 0)
	for _, c := range []struct {
		at   api.Rect
		want complex128
	}{
		{r(8, 1, 101, 50), 1}, {r(8, 1, 100, 51), 1i}, {r(8, 1, 130, 90), 30 + 40i},
		{r(28, 1, 100, 50), 20}, {r(8, 31, 100, 50), 30i},
		{r(108, 51, 5, 5), 5 + 5i}, {r(110, 51, 5, 5), 7 + 5i},
		{r(-500, -500, 100, 50), 0}, {r(-500, -500, 700, 50), 92}, {r(-500, -500, 100, 700), 149i},
		{r(500, 0, 0, 50), 0}, {r(0, 500, 100, 0), 0}, {r(500, 500, 0, 0), 0},
		{r(math.MaxInt, math.MaxInt, 1, 1), p(most-108, most-51)}, {r(math.MinInt, math.MinInt, 1, 1), 0},
		{r(0, 0, math.MaxInt, 1), most - 108},
	} {
		x.m[a] = c.at
		x.most("a kid", 0, c.want)
	}
	x.m[a] = r(8, 1, 100, 60)
	x.add(0, with(), r(8, 61, 130, 15))
	x.most("both kids", 0, 30+25i)
	x.add(0, with(), r(900, 900, 0, 9))
	x.most("an empty one takes nothing", 0, 30+25i)
	x.m[0] = r(0, 0, 3, 3)
	x.most("a port of 0", 0, 130+75i)
}

func TestMostOfKids(t *testing.T) {
	for _, c := range []struct {
		name         string
		kid, in      api.Style
		inIt, window complex128 // how far the kid's own scroller is scrolled at the most, and the root
	}{
		{"visible", with(), with(), 0, 40 + 60i},
		{"clips", with(clips), with(), 0, 10 + 20i},
		{"scrolls", with(scrolls), with(), 30 + 40i, 10 + 20i},
		{"absolute", with(absolute), with(absolute), 0, 40 + 60i},
		{"fixed", with(fixed), with(), 0, 0},
		{"fixed, and scrolls", with(fixed, scrolls), with(), 30 + 40i, 0},
		{"fixed in it", with(), with(fixed), 0, 10 + 20i},
		{"scrolls, fixed in it", with(scrolls), with(fixed), 0, 10 + 20i},
		{"sticks", with(sticks(px(1))), with(sticks(px(1))), 0, 40 + 60i},
	} {
		x := newScene(t, with(scrolls), r(0, 0, 50, 50))
		a := x.add(0, c.kid, r(20, 30, 40, 40))
		b := x.add(a, c.in, r(60, 70, 10, 10))
		x.most(c.name, 0, c.window)
		x.most(c.name, a, c.inIt)
		x.most(c.name, b, 0)
	}
}

// TestMostOfOthers holds that what doesn't scroll can't be scrolled, nor what is not
// shown.
func TestMostOfOthers(t *testing.T) {
	for _, over := range []func(*api.Style){visible, clips, scrolls} {
		x := newScene(t, with(), r(0, 0, 10, 10))
		a := x.add(0, with(over), r(0, 0, 10, 10))
		b := x.add(a, with(scrolls), r(0, 0, 25, 5))
		c := x.add(b, with(), r(0, 0, 5, 9))
		want := complex128(0)
		if x.x.Style(a).Overflow == api.OverScroll {
			want = 15
		}
		x.most("a box", a, want)
		x.most("a box that scrolls", b, 4i)
		for _, id := range []int{4, -1, math.MinInt, math.MaxInt} {
			x.m[id] = r(0, 0, 1, 1)
			x.most("what the tree has not", id, 0)
		}
		delete(x.m, c)
		x.most("m has not the one in it", b, 0)
		x.m[c] = r(0, 0, 5, 9)
		delete(x.m, a)
		x.most("m has it not", a, 0)
		x.most("m has not the one that it is in", b, 0)
		x.m[a] = r(0, 0, 10, 10)
		delete(x.m, 0)
		x.most("m has not the root", a, 0)
		x.most("m has not the root", b, 0)
	}
}

func TestNoTree(t *testing.T) {
	m := map[int]api.Rect{0: r(0, 0, 10, 10), -1: r(0, 0, 10, 10)}
	for _, x := range []*tree.Tree{nil, {}} {
		for _, id := range []int{0, -1} {
			if Reach(x, m, id) != r(0, 0, 0, 0) || Most(x, m, id) != 0 || Scroller(x, id) != -1 {
				t.Error("there is nothing")
			}
		}
		if got := Spots(x, m, map[int]complex128{0: 1}, 10, 10); len(got) != 0 {
			t.Error("there is nothing", got)
		}
	}
	x := tree.New()
	for _, none := range []map[int]api.Rect{nil, {}} {
		if Reach(x, none, 0) != r(0, 0, 0, 0) || Most(x, none, 0) != 0 || len(Spots(x, none, nil, 9, 9)) != 0 {
			t.Error("nothing is shown")
		}
	}
}

// TestNothingIsChanged holds R3: an argument is changed by no call, and an answer
// by nothing that comes behind it.
func TestNothingIsChanged(t *testing.T) {
	x := newScene(t, with(), r(0, 0, 50, 50))
	a := x.add(0, with(scrolls), r(0, 0, 50, 50))
	x.add(a, with(sticks(px(3))), r(0, 0, 90, 90))
	offsets := map[int]complex128{a: 20 + 900i, 7: 1}
	m, told, by := maps.Clone(x.m), tell(x.x), maps.Clone(offsets)
	first := Spots(x.x, x.m, offsets, 70, 80)
	kept := maps.Clone(first)
	again := Spots(x.x, x.m, offsets, 70, 80)
	Reach(x.x, x.m, 0)
	Most(x.x, x.m, a)
	Scroller(x.x, 2)
	if !maps.Equal(x.m, m) || tell(x.x) != told || !maps.Equal(offsets, by) {
		t.Error("an argument has changed")
	}
	clear(again)
	clear(x.m)
	clear(offsets)
	x.x.Remove(a)
	if !maps.Equal(first, kept) || !maps.Equal(Spots(tree.New(), m, nil, 70, 80), map[int]Spot{0: {r(0, 0, 50, 50), r(0, 0, 70, 80)}}) {
		t.Error("an answer has changed")
	}
}
