package flow

import (
	"maps"
	"math"
	"math/rand"
	"slices"
	"strconv"
	"strings"
	"testing"

	"valance/api"
	"valance/record"
	"valance/tree"
)

func px(n int) api.Len { return api.Len{Kind: api.Px, N: n} }

func per(n int) api.Len { return api.Len{Kind: api.Per, N: n} }

func r(x, y, w, h int) api.Rect { return api.Rect{X: x, Y: y, W: w, H: h} }

// sides are lengths of the sides: top, right, bottom, left.
func sides(top, right, bottom, left int) [4]api.Len {
	return [4]api.Len{px(top), px(right), px(bottom), px(left)}
}

// leaf is a box that has a content alone.
func leaf(w, h int) api.Style { return api.Style{Content: [2]int{w, h}} }

// with is a style that is changed.
func with(s api.Style, change func(s *api.Style)) api.Style {
	change(&s)
	return s
}

// grow makes a tree of a root's style, and then of boxes, each told by the number
// of the one that it is in, and its style.
func grow(t *testing.T, root api.Style, l ...any) *tree.Tree {
	t.Helper()
	x := tree.New()
	if x.Set(0, root) != api.OK {
		t.Fatal("the root's style")
	}
	for i := 0; i < len(l); i += 2 {
		up := l[i].(int)
		id, e := x.Add(up, len(x.Kids(up)))
		if e != api.OK || x.Set(id, l[i+1].(api.Style)) != api.OK {
			t.Fatal(i, e)
		}
	}
	return x
}

// tell is a tree as text.
func tell(t *tree.Tree) string {
	l := []string{}
	for _, id := range t.Order() {
		row := strconv.Itoa(id) + " in " + strconv.Itoa(t.Up(id)) + ":"
		for _, n := range record.Put(t.Style(id)) {
			row += " " + strconv.Itoa(n)
		}
		l = append(l, row)
	}
	return strings.Join(l, "\n")
}

// check holds all boxes, in their numbers' order, against what is laid.
func check(t *testing.T, name string, x *tree.Tree, w, h int, want ...api.Rect) {
	t.Helper()
	all := map[int]api.Rect{}
	for id, one := range want {
		all[id] = one
	}
	if got := Lay(x, w, h); !maps.Equal(got, all) {
		t.Error(name, got, want)
	}
}

// checkOne holds one box against what is laid.
func checkOne(t *testing.T, name string, x *tree.Tree, w, h, id int, want api.Rect) {
	t.Helper()
	if got, ok := Lay(x, w, h)[id]; !ok || got != want {
		t.Error(name, id, got, want)
	}
}

func TestShown(t *testing.T) {
	none := api.Style{Display: api.ShowNone}
	x := grow(t, api.Style{}, 0, api.Style{}, 1, none, 2, api.Style{}, 3, api.Style{Position: api.PosFixed})
	for id, want := range map[int]bool{0: true, 1: true, 2: false, 3: false, 4: false, 5: false, -1: false, math.MaxInt: false, math.MinInt: false} {
		if Shown(x, id) != want {
			t.Error(id)
		}
	}
	check(t, "what is not shown is not laid", x, 9, 9, r(0, 0, 9, 0), r(0, 0, 9, 0))
	x.Set(0, none)
	for id := range 5 {
		if Shown(x, id) {
			t.Error("in a root that is not shown:", id)
		}
	}
	check(t, "no root", x, 9, 9)
}

func TestFlows(t *testing.T) {
	x := grow(t, api.Style{})
	for _, s := range []api.Style{
		{Display: api.ShowNone}, {Position: api.PosSticky}, {Position: api.PosFixed, Layer: true},
		{Position: api.PosRelative}, {Position: api.PosAbsolute}, {Display: api.ShowRow},
	} {
		id, _ := x.Add(0, 0)
		x.Set(id, s)
	}
	x.Add(1, 0) // 7, not shown
	x.Add(7, 0)
	x.Add(5, 0) // 9, in one that doesn't flow
	for id, want := range map[int][]int{0: {6, 4, 2}, 1: {}, 5: {9}, 7: {}, 2: {}, 10: {}, -1: {}} {
		if got := Flows(x, id); !slices.Equal(got, want) {
			t.Error(id, got, want)
		}
	}
	Flows(x, 0)[0] = 5
	if !slices.Equal(Flows(x, 0), []int{6, 4, 2}) {
		t.Error("an answer is shared")
	}
}

func TestEdges(t *testing.T) {
	for _, c := range []struct{ padding, border, want [4]int }{
		{want: [4]int{}},
		{[4]int{1, 2, 3, 4}, [4]int{10, 20, 30, 40}, [4]int{11, 22, 33, 44}},
		{[4]int{-5, math.MaxInt, 1 << 50, 0}, [4]int{2, 1, 1 << 50, -7}, [4]int{-3, math.MinInt, 1 << 51, -7}},
	} {
		if got := Edges(api.Style{Padding: c.padding, Border: c.border}); got != c.want {
			t.Error(got, c.want)
		}
	}
}

func TestNoTree(t *testing.T) {
	for _, x := range []*tree.Tree{nil, {}} {
		if Shown(x, 0) || len(Flows(x, 0)) != 0 || len(Lay(x, 10, 10)) != 0 {
			t.Error("there is nothing")
		}
	}
}

func TestRoot(t *testing.T) {
	check(t, "alone", tree.New(), 100, 50, r(0, 0, 100, 0))
	check(t, "a window below 0", tree.New(), -3, -4, r(0, 0, 0, 0))
	check(t, "its content", grow(t, leaf(30, 20)), 100, 50, r(0, 0, 100, 20))
	check(t, "the document's example", grow(t, api.Style{}, 0, leaf(30, 20)), 100, 50, r(0, 0, 100, 20), r(0, 0, 100, 20))
	check(t, "its margins", grow(t, with(leaf(1, 2), func(s *api.Style) { s.Margin = sides(1, 2, 3, 4) })), 100, 50, r(0, 0, 94, 2))
	check(t, "parts of the window", grow(t, api.Style{Width: per(2500), Height: per(5000)}), 100, 50, r(0, 0, 25, 25))
	check(t, "a high of 0 is known", grow(t, with(leaf(1, 2), func(s *api.Style) { s.Height = per(api.Whole) })), 100, -50, r(0, 0, 100, 0))
	for p := api.PosStatic; p <= api.PosSticky; p++ {
		s := with(leaf(1, 2), func(s *api.Style) { s.Position, s.Inset = p, sides(1, 2, 3, 4) })
		check(t, "wherever it is to be", grow(t, s), 100, 50, r(0, 0, 100, 2))
	}
	check(t, "it is not open", grow(t, api.Style{}, 0, with(leaf(1, 2), func(s *api.Style) { s.Margin = sides(5, 0, 6, 0) })), 100, 50, r(0, 0, 100, 13), r(0, 5, 100, 2))
}

func TestBeyondTheLimit(t *testing.T) {
	check(t, "a window", tree.New(), math.MaxInt, math.MaxInt, r(0, 0, api.Most, 0))
	high := api.Style{Height: px(api.Most), Padding: [4]int{1, 1, 1, 1}}
	check(t, "a rectangle is cut", grow(t, high, 0, leaf(1, 1)), 10, 10, r(0, 0, 10, api.Most), r(1, 1, 8, 1))
	// What isn't cut is reckoned with as it is.
	fixed := api.Style{Position: api.PosFixed, Width: px(10), Inset: [4]api.Len{{}, px(95), {}, {}}}
	checkOne(t, "a window that is not cut", grow(t, api.Style{}, 0, fixed), api.Most+100, 0, 1, r(api.Most-5, 0, 10, 0))
	fixed.Inset[api.Right] = px(90)
	checkOne(t, "the limit", grow(t, api.Style{}, 0, fixed), api.Most+100, 0, 1, r(api.Most, 0, 10, 0))
	fixed.Inset[api.Right] = px(50)
	checkOne(t, "beyond it", grow(t, api.Style{}, 0, fixed), api.Most+100, 0, 1, r(api.Most, 0, 10, 0))
	low := api.Style{Position: api.PosFixed, Inset: [4]api.Len{px(-api.Most), {}, {}, px(-api.Most)}, Margin: sides(-1, 0, 0, -1)}
	checkOne(t, "beyond it, the other way", grow(t, api.Style{}, 0, low), 10, 10, 1, r(-api.Most, -api.Most, 0, 0))
}

func TestWide(t *testing.T) {
	edges := api.Style{Padding: [4]int{0, 1, 0, 2}, Border: [4]int{0, 3, 0, 4}} // 10 across
	for _, c := range []struct {
		name   string
		change func(s *api.Style)
		want   int
	}{
		{"all of the room", func(s *api.Style) {}, 200},
		{"less its margins", func(s *api.Style) { s.Margin = sides(1, 5, 1, 7) }, 188},
		{"margins of the room's width", func(s *api.Style) { s.Margin[api.Left] = per(1000) }, 180},
		{"margins below 0", func(s *api.Style) { s.Margin[api.Left] = px(-8) }, 208},
		{"no less than 0", func(s *api.Style) { s.Margin = sides(0, 150, 0, 150) }, 10},
		{"its Width", func(s *api.Style) { s.Width = px(40) }, 50},
		{"its Width, whatever its margins", func(s *api.Style) { s.Width, s.Margin = px(40), sides(1, 5, 1, 7) }, 50},
		{"a part of the room's width", func(s *api.Style) { s.Width = per(2500) }, 60},
		{"more than all of it", func(s *api.Style) { s.Width = per(20000) }, 410},
		{"a Width below 0", func(s *api.Style) { s.Width = px(-40) }, 10},
		{"MinWidth", func(s *api.Style) { s.Width, s.MinWidth = px(40), px(60) }, 70},
		{"MaxWidth", func(s *api.Style) { s.Width, s.MaxWidth = px(40), px(30) }, 40},
		{"MinWidth, beyond MaxWidth", func(s *api.Style) { s.Width, s.MinWidth, s.MaxWidth = px(40), px(35), px(30) }, 45},
		{"limits of the room's width", func(s *api.Style) { s.Width, s.MaxWidth = px(40), per(1000) }, 30},
		{"all of the room, and MinWidth", func(s *api.Style) { s.MinWidth = per(15000) }, 310},
		{"all of the room, and MaxWidth", func(s *api.Style) { s.MaxWidth = px(70) }, 80},
		{"MaxWidth below 0", func(s *api.Style) { s.MaxWidth = px(-70) }, 10},
		{"limits are wide themselves", func(s *api.Style) { s.MinHeight, s.MaxHeight, s.Height = px(1), px(2), px(3) }, 200},
	} {
		if got := Lay(grow(t, api.Style{}, 0, with(edges, c.change)), 200, 100)[1].W; got != c.want {
			t.Error(c.name, got, c.want)
		}
	}
}

func TestHigh(t *testing.T) {
	edges := with(leaf(1, 20), func(s *api.Style) { s.Padding, s.Border = [4]int{1, 0, 2, 0}, [4]int{3, 0, 4, 0} }) // 10 down
	for _, c := range []struct {
		name           string
		change         func(s *api.Style)
		known, unknown int // in a room that is 100 high, and in one that isn't known
	}{
		{"its content", func(s *api.Style) {}, 30, 30},
		{"its Height", func(s *api.Style) { s.Height = px(50) }, 60, 60},
		{"a part", func(s *api.Style) { s.Height = per(5000) }, 60, 30},
		{"its margins are none of it", func(s *api.Style) { s.Margin = sides(5, 5, 5, 5) }, 30, 30},
		{"MinHeight", func(s *api.Style) { s.Height, s.MinHeight = px(50), px(60) }, 70, 70},
		{"MaxHeight", func(s *api.Style) { s.Height, s.MaxHeight = px(50), px(40) }, 50, 50},
		{"MinHeight, beyond MaxHeight", func(s *api.Style) { s.Height, s.MinHeight, s.MaxHeight = px(50), px(45), px(40) }, 55, 55},
		{"limits that are parts", func(s *api.Style) { s.Height, s.MinHeight = px(50), per(6000) }, 70, 60},
		{"its content, and MinHeight", func(s *api.Style) { s.MinHeight = px(25) }, 35, 35},
		{"its content, and MaxHeight", func(s *api.Style) { s.MaxHeight = px(15) }, 25, 25},
		{"its content, and parts", func(s *api.Style) { s.MaxHeight = per(1500) }, 25, 30},
		{"a Height below 0", func(s *api.Style) { s.Height = px(-1) }, 10, 10},
		{"limits are high themselves", func(s *api.Style) { s.MinWidth, s.MaxWidth, s.Width = px(1), px(2), px(3) }, 30, 30},
	} {
		x := grow(t, api.Style{Height: px(100)}, 0, with(edges, c.change))
		if got := Lay(x, 200, 300)[1].H; got != c.known {
			t.Error(c.name, got, c.known)
		}
		x.Set(0, api.Style{})
		if got := Lay(x, 200, 300)[1].H; got != c.unknown {
			t.Error(c.name, "(of an unknown one)", got, c.unknown)
		}
	}
}

func TestHighByWhatIsIn(t *testing.T) {
	for d := api.ShowBlock; d <= api.ShowColumn; d++ {
		box := with(leaf(50, 20), func(s *api.Style) { s.Display = d })
		checkOne(t, "by what flows", grow(t, api.Style{}, 0, box, 1, leaf(5, 7)), 100, 90, 1, r(0, 0, 100, 7))
		checkOne(t, "nothing flows", grow(t, api.Style{}, 0, box, 1, with(leaf(5, 7), func(s *api.Style) { s.Position = api.PosAbsolute })), 100, 90, 1, r(0, 0, 100, 20))
		checkOne(t, "nothing is shown", grow(t, api.Style{}, 0, box, 1, api.Style{Display: api.ShowNone}), 100, 90, 1, r(0, 0, 100, 20))
		box.MaxHeight = px(4)
		checkOne(t, "MaxHeight", grow(t, api.Style{}, 0, box, 1, leaf(5, 7)), 100, 90, 1, r(0, 0, 100, 4))
		box.MaxHeight, box.MinHeight = api.Len{}, px(9)
		checkOne(t, "MinHeight", grow(t, api.Style{}, 0, box, 1, leaf(5, 7)), 100, 90, 1, r(0, 0, 100, 9))
		box.MinHeight, box.Overflow = api.Len{}, api.OverClip
		checkOne(t, "no less than 0", grow(t, api.Style{}, 0, box, 1, with(leaf(5, 7), func(s *api.Style) { s.Margin = sides(0, 0, -9, 0) })), 100, 90, 1, r(0, 0, 100, 0))
	}
	half := with(leaf(1, 20), func(s *api.Style) { s.Height = per(5000) })
	check(t, "parts of parts", grow(t, api.Style{Height: px(100)}, 0, half, 1, half), 9, 9, r(0, 0, 9, 100), r(0, 0, 9, 50), r(0, 0, 9, 25))
	check(t, "parts of what is not known", grow(t, api.Style{Height: px(100)}, 0, api.Style{}, 1, half), 9, 9, r(0, 0, 9, 100), r(0, 0, 9, 20), r(0, 0, 9, 20))
}

func TestBlockOneBelowTheOther(t *testing.T) {
	root := api.Style{Padding: [4]int{1, 2, 3, 4}, Border: [4]int{10, 20, 30, 40}}
	a := with(leaf(1, 10), func(s *api.Style) { s.Margin = sides(5, 0, 8, 0) })
	b := with(leaf(1, 20), func(s *api.Style) { s.Margin, s.Padding = sides(6, 0, -2, 0), [4]int{1, 0, 1, 0} })
	c := with(leaf(1, 30), func(s *api.Style) { s.Margin = sides(7, 0, 9, 0) })
	check(t, "margins between, and at the ends", grow(t, root, 0, a, 0, b, 0, c), 166, 50,
		r(0, 0, 166, 133), r(44, 16, 100, 10), r(44, 34, 100, 22), r(44, 61, 100, 30))
	a.Margin, b.Margin = [4]api.Len{per(5000), {}, {}, {}}, [4]api.Len{per(5000), {}, per(1000), {}}
	check(t, "parts of how high it is are none", grow(t, api.Style{Height: px(80)}, 0, a, 0, b), 100, 50, r(0, 0, 100, 80), r(0, 0, 100, 10), r(0, 10, 100, 22))
	c.Margin = sides(-40, 0, 0, 0)
	check(t, "margins below 0", grow(t, api.Style{}, 0, leaf(1, 10), 0, c), 100, 50, r(0, 0, 100, 0), r(0, 0, 100, 10), r(0, -30, 100, 30))
	check(t, "the first one's, below 0", grow(t, api.Style{}, 0, c), 100, 50, r(0, 0, 100, 0), r(0, -40, 100, 30))
}

func TestBlockAcross(t *testing.T) {
	auto := api.Len{}
	for _, c := range []struct {
		name        string
		left, right api.Len
		want        int
	}{
		{"both take what is left", auto, auto, 27},
		{"it alone", auto, px(10), 45},
		{"the other one", px(10), auto, 10},
		{"none", px(10), px(20), 10},
		{"parts of the box's wide", per(1000), px(3), 10},
		{"below 0", px(-6), auto, -6},
		{"nothing is left", auto, px(80), 0},
	} {
		kid := api.Style{Width: px(40), Margin: [4]api.Len{{}, c.right, {}, c.left}, Border: [4]int{0, 2, 0, 3}}
		checkOne(t, c.name, grow(t, api.Style{Padding: [4]int{0, 7, 0, 5}}, 0, kid), 112, 50, 1, r(5+c.want, 0, 45, 0))
	}
	kid := api.Style{Width: px(40)}
	checkOne(t, "half, rounded down", grow(t, api.Style{}, 0, kid), 83, 50, 1, r(21, 0, 40, 0))
}

// TestOpen has a box with a margin of 3 and 1, in it one of 10 with 5 and 8, and
// behind both a third one.
func TestOpen(t *testing.T) {
	in := with(leaf(1, 10), func(s *api.Style) { s.Margin = sides(5, 0, 8, 0) })
	for _, c := range []struct {
		name          string
		change        func(s *api.Style)
		y, h, kid, by int // of the box, of what is in it, and where the third one begins
	}{
		{"at both ends", func(s *api.Style) {}, 5, 10, 0, 23},
		{"what is relative", func(s *api.Style) { s.Position = api.PosRelative }, 5, 10, 0, 23},
		{"what sticks", func(s *api.Style) { s.Position = api.PosSticky }, 5, 10, 0, 23},
		{"edges across", func(s *api.Style) { s.Padding, s.Border = [4]int{0, 1, 0, 1}, [4]int{0, 1, 0, 1} }, 5, 10, 0, 23},
		{"limits, and a Width", func(s *api.Style) { s.MinWidth, s.Width = px(9), px(9) }, 5, 10, 0, 23},
		{"MaxHeight", func(s *api.Style) { s.MaxHeight = px(6) }, 5, 6, 0, 19},
		{"not what clips", func(s *api.Style) { s.Overflow = api.OverClip }, 3, 23, 5, 27},
		{"not what scrolls", func(s *api.Style) { s.Overflow = api.OverScroll }, 3, 23, 5, 27},
		{"not a row", func(s *api.Style) { s.Display = api.ShowRow }, 3, 23, 5, 27},
		{"not a column", func(s *api.Style) { s.Display = api.ShowColumn }, 3, 23, 5, 27},
		{"not at a padding", func(s *api.Style) { s.Padding[api.Top] = 2 }, 3, 17, 7, 28},
		{"not at a border", func(s *api.Style) { s.Border[api.Top] = 2 }, 3, 17, 7, 28},
		{"not at a padding below", func(s *api.Style) { s.Padding[api.Bottom] = 2 }, 5, 20, 0, 26},
		{"not at a border below", func(s *api.Style) { s.Border[api.Bottom] = 2 }, 5, 20, 0, 26},
		{"not below a Height", func(s *api.Style) { s.Height = px(50) }, 5, 50, 0, 56},
		{"not below a Height that is not known", func(s *api.Style) { s.Height = per(5000) }, 5, 18, 0, 24},
		{"not below a MinHeight", func(s *api.Style) { s.MinHeight = px(0) }, 5, 18, 0, 24},
		{"not below a MinHeight that is not known", func(s *api.Style) { s.MinHeight = per(5000) }, 5, 18, 0, 24},
	} {
		box := with(api.Style{Margin: sides(3, 0, 1, 0)}, c.change)
		got := Lay(grow(t, api.Style{}, 0, box, 1, in, 0, leaf(1, 1)), 100, 50)
		if got[1].Y != c.y || got[1].H != c.h || got[2].Y != c.kid || got[3].Y != c.by {
			t.Error(c.name, got)
		}
	}
}

func TestNotOpenWhereItIs(t *testing.T) {
	in := with(leaf(1, 10), func(s *api.Style) { s.Margin = sides(5, 0, 8, 0) })
	box := api.Style{Margin: sides(3, 0, 1, 0)}
	check(t, "in a row", grow(t, api.Style{Display: api.ShowRow}, 0, box, 1, in), 100, 50, r(0, 0, 100, 27), r(0, 3, 0, 23), r(0, 5, 0, 10))
	check(t, "in a column", grow(t, api.Style{Display: api.ShowColumn}, 0, box, 1, in), 100, 50, r(0, 0, 100, 27), r(0, 3, 100, 23), r(0, 5, 100, 10))
	box.Position = api.PosAbsolute
	check(t, "what is absolute", grow(t, api.Style{}, 0, box, 1, in, 0, leaf(1, 1)), 100, 50, r(0, 0, 100, 1), r(0, 3, 0, 23), r(0, 5, 0, 10), r(0, 0, 100, 1))
	box.Position = api.PosFixed
	check(t, "what is fixed", grow(t, api.Style{}, 0, box, 1, in, 0, leaf(1, 1)), 100, 50, r(0, 0, 100, 1), r(0, 3, 0, 23), r(0, 5, 0, 10), r(0, 0, 100, 1))
	check(t, "what is in it is open", grow(t, api.Style{}, 0, box, 1, api.Style{Margin: sides(2, 0, 2, 0)}, 2, in), 100, 50, r(0, 0, 100, 0), r(0, 3, 0, 23), r(0, 5, 0, 10), r(0, 0, 0, 10))
}

func TestMarginsThroughMany(t *testing.T) {
	top := func(n int) api.Style { return api.Style{Margin: sides(n, 0, 0, 0)} }
	bottom := func(n int) api.Style { return api.Style{Margin: sides(0, 0, n, 0)} }
	check(t, "tops", grow(t, api.Style{}, 0, top(10), 1, top(-4), 2, top(6), 3, top(-1)), 9, 9,
		r(0, 0, 9, 6), r(0, 6, 9, 0), r(0, 0, 9, 0), r(0, 0, 9, 0), r(0, 0, 9, 0))
	// Of greatest and least of each alone something else would come.
	check(t, "all at once", grow(t, api.Style{}, 0, top(-10), 1, top(8), 2, top(-5)), 9, 9,
		r(0, 0, 9, 0), r(0, -2, 9, 0), r(0, 0, 9, 0), r(0, 0, 9, 0))
	check(t, "bottoms", grow(t, api.Style{}, 0, bottom(10), 1, bottom(-4), 2, bottom(16), 0, leaf(1, 1)), 9, 9,
		r(0, 0, 9, 13), r(0, 0, 9, 0), r(0, 0, 9, 0), r(0, 0, 9, 0), r(0, 12, 9, 1))
	check(t, "the first one's top, the last one's bottom", grow(t, api.Style{}, 0, api.Style{}, 1, with(top(3), func(s *api.Style) { s.Margin[api.Bottom] = px(4) }), 1, with(top(5), func(s *api.Style) { s.Margin[api.Bottom] = px(7) })), 9, 9,
		r(0, 0, 9, 15), r(0, 3, 9, 5), r(0, 0, 9, 0), r(0, 5, 9, 0))
	check(t, "not through a box from top to bottom", grow(t, api.Style{}, 0, with(leaf(1, 10), func(s *api.Style) { s.Margin = sides(0, 0, 5, 0) }), 0, api.Style{Margin: sides(3, 0, 4, 0)}, 0, with(leaf(1, 10), func(s *api.Style) { s.Margin = sides(6, 0, 0, 0) })), 9, 9,
		r(0, 0, 9, 31), r(0, 0, 9, 10), r(0, 15, 9, 0), r(0, 21, 9, 10))
	apart := api.Style{Position: api.PosAbsolute, Margin: sides(50, 0, 50, 0)}
	check(t, "of what flows", grow(t, api.Style{}, 0, api.Style{}, 1, apart, 1, with(top(5), func(s *api.Style) { s.Margin[api.Bottom] = px(7) }), 1, apart), 9, 9,
		r(0, 0, 9, 12), r(0, 5, 9, 0), r(0, 50, 0, 0), r(0, 0, 9, 0), r(0, 50, 0, 0))
	stopped := with(top(5), func(s *api.Style) { s.Border[api.Top] = 1 })
	check(t, "as far as it is open", grow(t, api.Style{}, 0, top(3), 1, stopped, 2, top(9)), 9, 9,
		r(0, 0, 9, 15), r(0, 5, 9, 10), r(0, 0, 9, 10), r(0, 10, 9, 0))
}

// row is a row, and column a column, that is changed.
func row(change func(s *api.Style)) api.Style {
	return with(api.Style{Display: api.ShowRow}, change)
}

func column(change func(s *api.Style)) api.Style {
	return with(api.Style{Display: api.ShowColumn}, change)
}

func plain(*api.Style) {}

func TestRowItem(t *testing.T) {
	for _, c := range []struct {
		name   string
		change func(s *api.Style)
		want   int // how wide, in 200, with its edges of 10
	}{
		{"its content", plain, 40},
		{"its Width", func(s *api.Style) { s.Width = px(50) }, 60},
		{"a part of the wide", func(s *api.Style) { s.Width = per(5000) }, 110},
		{"its Basis", func(s *api.Style) { s.Width, s.Basis = px(50), px(70) }, 80},
		{"its Basis, a part", func(s *api.Style) { s.Width, s.Basis = px(50), per(2500) }, 60},
		{"its Basis, below 0", func(s *api.Style) { s.Basis = px(-7) }, 10},
		{"MinWidth", func(s *api.Style) { s.MinWidth = px(45) }, 55},
		{"MinWidth, a part", func(s *api.Style) { s.MinWidth = per(2500) }, 60},
		{"MinWidth, below 0", func(s *api.Style) { s.MinWidth = px(-45) }, 40},
		{"MaxWidth", func(s *api.Style) { s.MaxWidth = px(20) }, 30},
		{"MaxWidth, a part", func(s *api.Style) { s.MaxWidth = per(1000) }, 30},
		{"MaxWidth, below 0", func(s *api.Style) { s.MaxWidth = px(-1) }, 10},
		{"MinWidth, beyond MaxWidth", func(s *api.Style) { s.MinWidth, s.MaxWidth = px(25), px(20) }, 35},
		{"it grows", func(s *api.Style) { s.Grow = 1 }, 200},
		{"it grows beside its margins", func(s *api.Style) { s.Grow, s.Margin = 1, [4]api.Len{{}, per(500), {}, px(20)} }, 170},
		{"it grows beside margins below 0", func(s *api.Style) { s.Grow, s.Margin = 1, sides(0, -20, 0, 0) }, 220},
		{"it grows to MaxWidth", func(s *api.Style) { s.Grow, s.MaxWidth = 1, px(90) }, 100},
		{"it does not shrink", func(s *api.Style) { s.Width = px(300) }, 310},
		{"it shrinks", func(s *api.Style) { s.Width, s.Shrink = px(300), 1 }, 200},
		{"it shrinks to MinWidth", func(s *api.Style) { s.Width, s.Shrink, s.MinWidth = px(300), 1, px(250) }, 260},
		{"limits are wide themselves", func(s *api.Style) { s.MinHeight, s.MaxHeight, s.Height = px(1), px(2), px(3) }, 40},
	} {
		kid := with(leaf(30, 20), func(s *api.Style) { s.Padding, s.Border = [4]int{0, 1, 0, 2}, [4]int{0, 3, 0, 4} })
		if got := Lay(grow(t, row(plain), 0, with(kid, c.change)), 200, 100)[1].W; got != c.want {
			t.Error(c.name, got, c.want)
		}
	}
	wide := row(func(s *api.Style) { s.Width = px(1<<20 + 9) })
	checkOne(t, "it grows to 2^20", grow(t, wide, 0, api.Style{Grow: 1}), 9, 9, 1, r(0, 0, 1<<20, 0))
}

func TestRowGrowsAndShrinks(t *testing.T) {
	a := api.Style{Width: px(10), Grow: 1, Shrink: 1}
	b := api.Style{Width: px(10), Grow: 2, Shrink: 1}
	check(t, "the document's example", grow(t, row(plain), 0, a, 0, b), 35, 9, r(0, 0, 35, 0), r(0, 0, 15, 0), r(15, 0, 20, 0))
	check(t, "gaps", grow(t, row(func(s *api.Style) { s.Gap = 4 }), 0, a, 0, b, 0, b), 58, 9, r(0, 0, 58, 0), r(0, 0, 14, 0), r(18, 0, 18, 0), r(40, 0, 18, 0))
	check(t, "less", grow(t, row(plain), 0, a, 0, b), 15, 9, r(0, 0, 15, 0), r(0, 0, 8, 0), r(8, 0, 7, 0))
	check(t, "each line by itself", grow(t, row(func(s *api.Style) { s.Wrap = true }), 0, a, 0, b, 0, b), 25, 9, r(0, 0, 25, 0), r(0, 0, 11, 0), r(11, 0, 14, 0), r(0, 0, 25, 0))
}

func TestRowLines(t *testing.T) {
	kid := with(leaf(10, 10), func(s *api.Style) { s.Margin, s.Border = sides(0, 2, 0, 1), [4]int{0, 1, 0, 1} }) // 15
	wrap := row(func(s *api.Style) { s.Wrap, s.Gap = true, 5 })
	check(t, "they go on a line, just", grow(t, wrap, 0, kid, 0, kid), 35, 9, r(0, 0, 35, 10), r(1, 0, 12, 10), r(21, 0, 12, 10))
	check(t, "they do not", grow(t, wrap, 0, kid, 0, kid), 34, 9, r(0, 0, 34, 25), r(1, 0, 12, 10), r(1, 15, 12, 10))
	wrap.Wrap = false
	check(t, "they are not wrapped", grow(t, wrap, 0, kid, 0, kid), 34, 9, r(0, 0, 34, 10), r(1, 0, 12, 10), r(21, 0, 12, 10))
	wrap.Wrap = true
	kid.Basis, kid.MaxWidth = px(200), px(10)
	check(t, "as long as they may be", grow(t, wrap, 0, kid, 0, kid), 35, 9, r(0, 0, 35, 10), r(1, 0, 12, 10), r(21, 0, 12, 10))
	l := []any{}
	for range 66 {
		l = append(l, 0, leaf(1, 2))
	}
	got := Lay(grow(t, row(func(s *api.Style) { s.Gap = 3 }), l...), 1000, 9)
	if got[64] != r(252, 0, 1, 2) || got[65] != r(0, 5, 1, 2) || got[66] != r(4, 5, 1, 2) || got[0] != r(0, 0, 1000, 7) {
		t.Error("64 go on a line", got[64], got[65], got[66], got[0])
	}
}

func TestRowLineIsAsHigh(t *testing.T) {
	low := leaf(10, 10)
	high := with(leaf(10, 20), func(s *api.Style) { s.Margin, s.Border = sides(3, 0, 4, 0), [4]int{1, 0, 1, 0} }) // 29
	start := func(s *api.Style) { s.Align = api.AlignStart }
	check(t, "as the highest", grow(t, row(start), 0, low, 0, high), 50, 9, r(0, 0, 50, 29), r(0, 0, 10, 10), r(10, 3, 10, 22))
	under := with(leaf(10, 20), func(s *api.Style) { s.Margin = sides(-30, 0, 0, 0) })
	check(t, "at least 0", grow(t, row(start), 0, under), 50, 9, r(0, 0, 50, 0), r(0, -30, 10, 20))
	end := func(s *api.Style) { s.Align, s.Height, s.Wrap, s.Gap = api.AlignEnd, px(100), true, 2 }
	check(t, "the only one, as the high", grow(t, row(end), 0, low, 0, high), 50, 9, r(0, 0, 50, 100), r(0, 90, 10, 10), r(12, 74, 10, 22))
	check(t, "of two, as the highest", grow(t, row(end), 0, low, 0, high), 20, 9, r(0, 0, 20, 100), r(0, 0, 10, 10), r(0, 15, 10, 22))
	nought := func(s *api.Style) { s.Align, s.Height = api.AlignEnd, px(0) }
	check(t, "a high of 0 is known", grow(t, row(nought), 0, low), 50, 9, r(0, 0, 50, 0), r(0, -10, 10, 10))
	end = func(s *api.Style) { s.Align, s.MinHeight = api.AlignEnd, px(100) }
	check(t, "MinHeight makes no high known", grow(t, row(end), 0, low), 50, 9, r(0, 0, 50, 100), r(0, 0, 10, 10))
}

func TestRowStretch(t *testing.T) {
	for _, c := range []struct {
		name           string
		change         func(s *api.Style)
		known, unknown int // how high, in a row of 100, and in one that isn't known, beside one of 60
	}{
		{"as the line", plain, 93, 53},
		{"not what has a Height", func(s *api.Style) { s.Height = px(30) }, 33, 33},
		{"not what has a part", func(s *api.Style) { s.Height = per(5000) }, 53, 53},
		{"MaxHeight", func(s *api.Style) { s.MaxHeight = px(40) }, 43, 43},
		{"MaxHeight, a part", func(s *api.Style) { s.MaxHeight = per(2000) }, 23, 53},
		{"MinHeight", func(s *api.Style) { s.MinHeight = px(95) }, 98, 98},
		{"MinHeight, a part", func(s *api.Style) { s.MinHeight = per(9500) }, 98, 53},
		{"at least 0", func(s *api.Style) { s.Margin = sides(99, 0, 0, 0) }, 3, 13},
		{"its margins below 0", func(s *api.Style) { s.Margin = sides(-5, 0, 0, 0) }, 105, 65},
		{"not by how wide it is", func(s *api.Style) { s.Width, s.MaxWidth = px(1), px(1) }, 93, 53},
	} {
		kid := with(leaf(5, 10), func(s *api.Style) { s.Margin, s.Border = sides(3, 0, 4, 0), [4]int{1, 0, 2, 0} })
		x := grow(t, row(func(s *api.Style) { s.Height = px(100) }), 0, with(kid, c.change), 0, api.Style{Height: px(60)})
		if got := Lay(x, 200, 300)[1].H; got != c.known {
			t.Error(c.name, got, c.known)
		}
		x.Set(0, row(plain))
		if got := Lay(x, 200, 300)[1].H; got != c.unknown {
			t.Error(c.name, "(of an unknown one)", got, c.unknown)
		}
	}
	half := api.Style{Height: per(5000)}
	kid := leaf(5, 10)
	check(t, "what is in it is laid again", grow(t, row(plain), 0, kid, 1, half, 0, api.Style{Height: px(60)}), 50, 9, r(0, 0, 50, 60), r(0, 0, 5, 60), r(0, 0, 5, 30), r(5, 0, 0, 60))
	check(t, "but not if the box doesn't stretch", grow(t, row(func(s *api.Style) { s.Align = api.AlignStart }), 0, kid, 1, half, 0, api.Style{Height: px(60)}), 50, 9, r(0, 0, 50, 60), r(0, 0, 5, 0), r(0, 0, 5, 0), r(5, 0, 0, 60))
}

func TestRowBegins(t *testing.T) {
	a := with(leaf(10, 10), func(s *api.Style) { s.Margin = sides(1, 2, 3, 4) }) // 16, and 14
	b := leaf(20, 30)
	for _, c := range []struct {
		justify api.Justify
		align   api.Align
		x1, y1  int
		x2, h1  int
	}{
		{api.JustStart, api.AlignStretch, 4, 1, 19, 26},
		{api.JustStart, api.AlignStart, 4, 1, 19, 10},
		{api.JustEnd, api.AlignEnd, 65, 17, 80, 10},
		{api.JustCenter, api.AlignCenter, 34, 9, 49, 10},
		{api.JustBetween, api.AlignStart, 4, 1, 80, 10},
		{api.JustAround, api.AlignStart, 19, 1, 64, 10},
		{api.JustEvenly, api.AlignStart, 24, 1, 59, 10},
	} {
		box := row(func(s *api.Style) { s.Justify, s.Align, s.Gap, s.Padding = c.justify, c.align, 3, [4]int{6, 0, 0, 7} })
		check(t, "a row", grow(t, box, 0, a, 0, b), 107, 9, r(0, 0, 107, 36), r(7+c.x1, 6+c.y1, 10, c.h1), r(7+c.x2, 6, 20, 30))
	}
	box := row(func(s *api.Style) { s.Wrap, s.Gap, s.Justify = true, 3, api.JustEnd })
	check(t, "lines", grow(t, box, 0, a, 0, b, 0, a), 39, 9, r(0, 0, 39, 47), r(4, 1, 10, 26), r(19, 0, 20, 30), r(27, 34, 10, 10))
	parts := api.Style{Margin: [4]api.Len{per(1000), per(1000), per(1000), per(2000)}, Content: [2]int{10, 10}}
	check(t, "margins that are parts", grow(t, row(plain), 0, parts, 0, leaf(1, 1)), 100, 9, r(0, 0, 100, 10), r(20, 0, 10, 10), r(40, 0, 1, 10))
}

func TestColumnItem(t *testing.T) {
	for _, c := range []struct {
		name           string
		change         func(s *api.Style)
		known, unknown int // how high, with its edges of 10, in a column of 200, and in one that isn't known
	}{
		{"its content", plain, 30, 30},
		{"its Height", func(s *api.Style) { s.Height = px(50) }, 60, 60},
		{"a part", func(s *api.Style) { s.Height = per(5000) }, 110, 30},
		{"its Basis", func(s *api.Style) { s.Height, s.Basis = px(50), px(70) }, 80, 80},
		{"its Basis, a part", func(s *api.Style) { s.Height, s.Basis = px(50), per(2500) }, 60, 60},
		{"MinHeight", func(s *api.Style) { s.MinHeight = px(45) }, 55, 55},
		{"MinHeight, a part", func(s *api.Style) { s.MinHeight = per(2500) }, 60, 30},
		{"MinHeight, of a Basis", func(s *api.Style) { s.Basis, s.MinHeight = px(5), px(45) }, 55, 55},
		{"MaxHeight", func(s *api.Style) { s.MaxHeight = px(15) }, 25, 25},
		{"MaxHeight, of a Basis", func(s *api.Style) { s.Basis, s.MaxHeight = px(50), px(15) }, 25, 25},
		{"MaxHeight, a part of a Basis", func(s *api.Style) { s.Basis, s.MaxHeight = px(50), per(1000) }, 30, 60},
		{"MaxHeight, below 0", func(s *api.Style) { s.Basis, s.MaxHeight = px(50), px(-5) }, 10, 10},
		{"it grows", func(s *api.Style) { s.Grow = 1 }, 200, 30},
		{"it grows beside its margins", func(s *api.Style) { s.Grow, s.Margin = 1, [4]api.Len{px(20), {}, per(5000), {}} }, 180, 30},
		{"it grows to MaxHeight", func(s *api.Style) { s.Grow, s.MaxHeight = 1, px(90) }, 100, 30},
		{"it does not shrink", func(s *api.Style) { s.Height = px(300) }, 310, 310},
		{"it shrinks", func(s *api.Style) { s.Height, s.Shrink = px(300), 1 }, 200, 310},
		{"limits are high themselves", func(s *api.Style) { s.MinWidth, s.MaxWidth, s.Width = px(1), px(2), px(3) }, 30, 30},
	} {
		kid := with(leaf(30, 20), func(s *api.Style) { s.Padding, s.Border = [4]int{1, 0, 2, 0}, [4]int{3, 0, 4, 0} })
		x := grow(t, column(func(s *api.Style) { s.Height = px(200) }), 0, with(kid, c.change))
		if got := Lay(x, 100, 300)[1].H; got != c.known {
			t.Error(c.name, got, c.known)
		}
		x.Set(0, column(plain))
		if got := Lay(x, 100, 300)[1].H; got != c.unknown {
			t.Error(c.name, "(of an unknown one)", got, c.unknown)
		}
	}
	high := column(func(s *api.Style) { s.Height = px(1<<20 + 9) })
	checkOne(t, "it grows to 2^20", grow(t, high, 0, api.Style{Grow: 1}), 9, 9, 1, r(0, 0, 9, 1<<20))
	checkOne(t, "in one that isn't known it is 2^20 at the most, too", grow(t, column(plain), 0, api.Style{Height: px(1<<20 + 9)}), 9, 9, 1, r(0, 0, 9, 1<<20))
}

func TestColumnItemWide(t *testing.T) {
	for _, c := range []struct {
		name          string
		change        func(s *api.Style)
		stretch, free int
	}{
		{"its content", plain, 93, 33},
		{"its Width", func(s *api.Style) { s.Width = px(50) }, 53, 53},
		{"a part", func(s *api.Style) { s.Width = per(2000) }, 23, 23},
		{"MinWidth", func(s *api.Style) { s.MinWidth = px(95) }, 98, 98},
		{"MinWidth, a part", func(s *api.Style) { s.MinWidth = per(4000) }, 93, 43},
		{"MaxWidth", func(s *api.Style) { s.MaxWidth = px(25) }, 28, 28},
		{"its Basis is none of it", func(s *api.Style) { s.Basis = px(25) }, 93, 33},
	} {
		kid := with(leaf(30, 20), func(s *api.Style) { s.Margin, s.Border = sides(0, 3, 0, 4), [4]int{0, 1, 0, 2} })
		for align := api.AlignStretch; align <= api.AlignEnd; align++ {
			x := grow(t, column(func(s *api.Style) { s.Align = align }), 0, with(kid, c.change))
			want := c.free
			if align == api.AlignStretch {
				want = c.stretch
			}
			if got := Lay(x, 100, 300)[1].W; got != want {
				t.Error(c.name, align, got, want)
			}
		}
	}
	// How wide it is set makes it higher, as it does when it is laid again.
	kid := row(func(s *api.Style) { s.Wrap, s.Content = true, [2]int{25, 0} })
	check(t, "as high as it is so", grow(t, column(func(s *api.Style) { s.Align = api.AlignStart }), 0, kid, 1, leaf(20, 10), 1, leaf(20, 10)), 100, 9,
		r(0, 0, 100, 20), r(0, 0, 25, 20), r(0, 0, 20, 10), r(0, 10, 20, 10))
}

func TestColumnGrowsAndShrinks(t *testing.T) {
	a := api.Style{Height: px(10), Grow: 1, Shrink: 1, Margin: sides(1, 0, 2, 0)}
	b := api.Style{Height: px(10), Grow: 2, Shrink: 1, Border: [4]int{1, 0, 1, 0}}
	box := func(high int) api.Style {
		return column(func(s *api.Style) { s.Height, s.Gap = px(high), 5 })
	}
	check(t, "more", grow(t, box(45), 0, a, 0, b), 9, 9, r(0, 0, 9, 45), r(0, 1, 9, 15), r(0, 23, 9, 22))
	check(t, "less", grow(t, box(25), 0, a, 0, b), 9, 9, r(0, 0, 9, 25), r(0, 1, 9, 8), r(0, 16, 9, 9))
	half := api.Style{Height: per(5000)}
	check(t, "what is in it is laid again", grow(t, column(func(s *api.Style) { s.Height = px(60) }), 0, api.Style{Grow: 1}, 1, half), 9, 9, r(0, 0, 9, 60), r(0, 0, 9, 60), r(0, 0, 9, 30))
	check(t, "with its height set, though nothing tells how high the column is", grow(t, column(plain), 0, api.Style{}, 1, leaf(1, 10), 1, half), 9, 9, r(0, 0, 9, 10), r(0, 0, 9, 10), r(0, 0, 9, 10), r(0, 10, 9, 5))
	for _, n := range []int{64, 65} {
		l := []any{}
		for range n {
			l = append(l, 0, with(leaf(1, 2), func(s *api.Style) { s.Grow = 1 }))
		}
		want := 10 // they fill 640
		if n == 65 {
			want = 2
		}
		got := Lay(grow(t, column(func(s *api.Style) { s.Height = px(640) }), l...), 9, 9)
		if got[1].H != want || got[n] != r(0, want*(n-1), 9, want) {
			t.Error("at most 64", n, got[1], got[n])
		}
	}
}

func TestColumnBegins(t *testing.T) {
	a := with(leaf(10, 10), func(s *api.Style) { s.Margin = sides(1, 2, 3, 4) }) // 16, and 14
	b := leaf(20, 30)
	for _, c := range []struct {
		justify api.Justify
		align   api.Align
		x1, x2  int
		y1, y2  int
	}{
		{api.JustStart, api.AlignStart, 4, 0, 1, 17},
		{api.JustEnd, api.AlignEnd, 88, 80, 54, 70},
		{api.JustCenter, api.AlignCenter, 46, 40, 27, 43},
		{api.JustBetween, api.AlignStart, 4, 0, 1, 70},
		{api.JustAround, api.AlignStart, 4, 0, 14, 56},
		{api.JustEvenly, api.AlignStart, 4, 0, 18, 52},
	} {
		box := column(func(s *api.Style) {
			s.Justify, s.Align, s.Gap, s.Height, s.Padding = c.justify, c.align, 3, px(100), [4]int{6, 0, 0, 7}
		})
		check(t, "a column", grow(t, box, 0, a, 0, b), 107, 9, r(0, 0, 107, 106), r(7+c.x1, 6+c.y1, 10, 10), r(7+c.x2, 6+c.y2, 20, 30))
		box.Height, box.MinHeight = api.Len{}, px(100)
		// Nothing is left of what all come to together.
		check(t, "one that isn't known", grow(t, box, 0, a, 0, b), 107, 9, r(0, 0, 107, 106), r(7+c.x1, 7, 10, 10), r(7+c.x2, 23, 20, 30))
		box.MinHeight = api.Len{}
		checkOne(t, "as high as all", grow(t, box, 0, a, 0, b), 107, 9, 0, r(0, 0, 107, 53))
	}
	auto := api.Style{Width: px(10)}
	check(t, "nothing is taken by margins that are auto", grow(t, column(plain), 0, auto), 100, 9, r(0, 0, 100, 0), r(0, 0, 10, 0))
	parts := api.Style{Margin: [4]api.Len{per(1000), per(1000), per(1000), per(2000)}, Content: [2]int{10, 10}}
	check(t, "margins that are parts", grow(t, column(func(s *api.Style) { s.Height, s.Align = px(50), api.AlignEnd }), 0, parts), 100, 9, r(0, 0, 100, 50), r(80, 0, 10, 10))
	stretch := column(func(s *api.Style) { s.Padding[api.Left] = 5 })
	check(t, "what is stretched begins at its margin", grow(t, stretch, 0, a), 105, 9, r(0, 0, 105, 14), r(9, 1, 94, 10))
}

func TestMoved(t *testing.T) {
	auto := api.Len{}
	for _, c := range []struct {
		name           string
		inset          [4]api.Len
		x, y, ofHeight int // moved so, and down, if it is known how high the box is
	}{
		{"not at all", [4]api.Len{}, 0, 0, 0},
		{"by the left, and the top one", sides(1, 2, 3, 4), 4, 1, 1},
		{"by the right, and the bottom one", [4]api.Len{auto, px(2), px(3), auto}, -2, -3, -3},
		{"by 0, too", [4]api.Len{px(0), px(2), px(3), px(0)}, 0, 0, 0},
		{"below 0", [4]api.Len{auto, px(-2), auto, px(-4)}, -4, 0, 0},
		{"by parts", [4]api.Len{per(1000), auto, auto, per(1000)}, 10, 0, 20},
		{"by parts of the other side", [4]api.Len{auto, per(1000), per(1000), auto}, -10, 0, -20},
		{"by what is fixed", [4]api.Len{per(1000), auto, px(3), auto}, 0, -3, 20},
	} {
		kid := with(leaf(10, 10), func(s *api.Style) { s.Position, s.Inset = api.PosRelative, c.inset })
		for d := api.ShowBlock; d <= api.ShowColumn; d++ {
			for _, p := range []api.Position{api.PosStatic, api.PosRelative, api.PosSticky} {
				box := api.Style{Display: d, Align: api.AlignStart, Padding: [4]int{5, 5, 5, 5}}
				kid.Position = p
				x := grow(t, box, 0, kid, 0, leaf(10, 10))
				still := grow(t, box, 0, with(kid, func(s *api.Style) { s.Position = api.PosStatic }), 0, leaf(10, 10))
				for _, y := range []int{c.y, c.ofHeight} {
					want := Lay(still, 110, 99)
					if p == api.PosRelative {
						want[1] = r(want[1].X+c.x, want[1].Y+y, want[1].W, want[1].H)
					}
					if got := Lay(x, 110, 99); !maps.Equal(got, want) {
						t.Error(c.name, d, p, got, want)
					}
					box.Height = px(200)
					x.Set(0, box)
					still.Set(0, box)
				}
			}
		}
	}
}

func TestApartAcross(t *testing.T) {
	auto := api.Len{}
	for _, c := range []struct {
		name        string
		left, right api.Len
		change      func(s *api.Style)
		x, w        int // in what is 200 wide; its edges take 5, its content 30
	}{
		{"by none", auto, auto, plain, 0, 35},
		{"by the left one", px(12), auto, plain, 12, 35},
		{"by the right one", auto, px(12), plain, 153, 35},
		{"by both", px(12), px(13), plain, 12, 175},
		{"by both, and its margins", px(12), px(13), func(s *api.Style) { s.Margin = sides(0, 1, 0, 2) }, 14, 172},
		{"by both, too far", px(120), px(130), plain, 120, 5},
		{"by both, below 0", px(-12), px(-13), plain, -12, 225},
		{"by both, whatever its limits", px(12), px(13), func(s *api.Style) { s.MaxWidth = px(9) }, 12, 175},
		{"by both, with a Width", px(12), px(13), func(s *api.Style) { s.Width = px(40) }, 12, 45},
		{"by the right one, with a Width", auto, px(13), func(s *api.Style) { s.Width = px(40) }, 142, 45},
		{"a part", px(12), px(13), func(s *api.Style) { s.Width = per(5000) }, 12, 105},
		{"a part, limited", auto, px(13), func(s *api.Style) { s.Width, s.MaxWidth = per(5000), per(2500) }, 132, 55},
		{"by parts", per(1000), per(500), plain, 20, 170},
		{"by a part from the right", auto, per(500), plain, 155, 35},
		{"its margin behind the left one", px(12), auto, func(s *api.Style) { s.Margin = sides(0, 1, 0, 2) }, 14, 35},
		{"its margin ahead of the right one", auto, px(12), func(s *api.Style) { s.Margin = sides(0, 1, 0, 2) }, 152, 35},
		{"its margin alone", auto, auto, func(s *api.Style) { s.Margin = sides(0, 1, 0, 2) }, 2, 35},
		{"margins of the port's width", auto, auto, func(s *api.Style) { s.Margin[api.Left] = per(1000) }, 20, 35},
		{"its content, and MinWidth", auto, auto, func(s *api.Style) { s.MinWidth = per(2500) }, 0, 55},
		{"its content, and MaxWidth", auto, auto, func(s *api.Style) { s.MaxWidth = px(9) }, 0, 14},
	} {
		kid := with(leaf(30, 20), func(s *api.Style) {
			s.Position, s.Inset[api.Left], s.Inset[api.Right], s.Border = api.PosAbsolute, c.left, c.right, [4]int{0, 2, 0, 3}
		})
		box := api.Style{Border: [4]int{1, 4, 1, 6}, Padding: [4]int{1, 8, 1, 9}} // begins at 6; what flows begins 9 behind that
		x := c.x + 6
		if c.left == auto && c.right == auto {
			x += 9
		}
		got := Lay(grow(t, box, 0, with(kid, c.change)), 210, 90)[1]
		if got.X != x || got.W != c.w {
			t.Error(c.name, got, x, c.w)
		}
		fixed := with(with(kid, c.change), func(s *api.Style) { s.Position = api.PosFixed })
		got = Lay(grow(t, box, 0, api.Style{Padding: [4]int{7, 7, 7, 7}}, 1, fixed), 200, 90)[2]
		if got.X != c.x || got.W != c.w {
			t.Error(c.name, "(fixed)", got, c.x, c.w)
		}
	}
}

func TestApartDown(t *testing.T) {
	auto := api.Len{}
	for _, c := range []struct {
		name        string
		top, bottom api.Len
		change      func(s *api.Style)
		y, h        int // in what is 200 high; its edges take 5, its content 30
	}{
		{"by none", auto, auto, plain, 0, 35},
		{"by the top one", px(12), auto, plain, 12, 35},
		{"by the bottom one", auto, px(12), plain, 153, 35},
		{"by both", px(12), px(13), plain, 12, 175},
		{"by both, and its margins", px(12), px(13), func(s *api.Style) { s.Margin = sides(2, 0, 1, 0) }, 14, 172},
		{"by both, too far", px(120), px(130), plain, 120, 5},
		{"by both, whatever its limits", px(12), px(13), func(s *api.Style) { s.MaxHeight = px(9) }, 12, 175},
		{"by both, with a Height", px(12), px(13), func(s *api.Style) { s.Height = px(40) }, 12, 45},
		{"a part", auto, px(13), func(s *api.Style) { s.Height = per(5000) }, 82, 105},
		{"by parts", per(1000), per(500), plain, 20, 170},
		{"its margin behind the top one", px(12), auto, func(s *api.Style) { s.Margin = sides(2, 0, 1, 0) }, 14, 35},
		{"its margin ahead of the bottom one", auto, px(12), func(s *api.Style) { s.Margin = sides(2, 0, 1, 0) }, 152, 35},
		{"its margin alone", auto, auto, func(s *api.Style) { s.Margin = sides(2, 0, 1, 0) }, 2, 35},
		{"no margins that are parts", px(12), px(13), func(s *api.Style) { s.Margin = [4]api.Len{per(1000), auto, per(1000), auto} }, 12, 175},
		{"its content, and MinHeight", auto, auto, func(s *api.Style) { s.MinHeight = per(2500) }, 0, 55},
		{"its content, and MaxHeight", auto, auto, func(s *api.Style) { s.MaxHeight = px(9) }, 0, 14},
	} {
		kid := with(leaf(20, 30), func(s *api.Style) {
			s.Position, s.Inset[api.Top], s.Inset[api.Bottom], s.Border = api.PosAbsolute, c.top, c.bottom, [4]int{3, 0, 2, 0}
		})
		box := api.Style{Border: [4]int{6, 1, 4, 1}, Padding: [4]int{9, 1, 8, 1}, Content: [2]int{0, 183}}
		y := c.y + 6
		if c.top == auto && c.bottom == auto {
			y += 9
		}
		got := Lay(grow(t, box, 0, with(kid, c.change)), 90, 90)[1]
		if got.Y != y || got.H != c.h {
			t.Error(c.name, got, y, c.h)
		}
		fixed := with(with(kid, c.change), func(s *api.Style) { s.Position = api.PosFixed })
		got = Lay(grow(t, box, 0, api.Style{Padding: [4]int{7, 7, 7, 7}}, 1, fixed), 90, 200)[2]
		if got.Y != c.y || got.H != c.h {
			t.Error(c.name, "(fixed)", got, c.y, c.h)
		}
	}
}

func TestApartInAnyBox(t *testing.T) {
	apart := with(leaf(10, 10), func(s *api.Style) { s.Position, s.Inset = api.PosAbsolute, sides(1, 1, 1, 1) })
	for d := api.ShowBlock; d <= api.ShowColumn; d++ {
		box := api.Style{Display: d, Border: [4]int{2, 2, 2, 2}, Gap: 50, Justify: api.JustCenter}
		check(t, "as high as it came to be, and in no one's way", grow(t, box, 0, apart, 0, api.Style{Width: px(96), Height: px(40)}, 0, apart), 100, 9,
			r(0, 0, 100, 44), r(3, 3, 94, 38), r(2, 2, 96, 40), r(3, 3, 94, 38))
	}
	check(t, "of the box that it is in, whatever that is", grow(t, api.Style{Position: api.PosRelative}, 0, with(leaf(1, 30), func(s *api.Style) { s.Margin = sides(5, 5, 5, 5) }), 1, apart), 100, 9,
		r(0, 0, 100, 40), r(5, 5, 90, 30), r(1, 1, 88, 28))
	check(t, "one in the other", grow(t, leaf(1, 30), 0, apart, 1, apart, 2, leaf(3, 4)), 100, 9, r(0, 0, 100, 30), r(1, 1, 98, 28), r(1, 1, 96, 26), r(0, 0, 96, 4))
	half := api.Style{Height: per(5000)}
	check(t, "what is set is known", grow(t, leaf(1, 30), 0, apart, 1, half), 100, 9, r(0, 0, 100, 30), r(1, 1, 98, 28), r(0, 0, 98, 14))
	fixed := with(apart, func(s *api.Style) { s.Position = api.PosFixed })
	check(t, "the window, from deep in it", grow(t, api.Style{Padding: [4]int{9, 9, 9, 9}}, 0, apart, 1, fixed), 100, 60, r(0, 0, 100, 18), r(1, 1, 98, 16), r(1, 1, 98, 58))
	check(t, "a window below 0", grow(t, api.Style{}, 0, fixed), -100, -60, r(0, 0, 0, 0), r(1, 1, 0, 0))
}

// TestAnswersAreTheirOwn holds R3: nothing is changed by being laid, and no answer
// by what comes behind it.
func TestAnswersAreTheirOwn(t *testing.T) {
	c := chance{rand.New(rand.NewSource(4)), 90}
	for range 200 {
		x := c.tree(8)
		before := tell(x)
		first := Lay(x, 200, 100)
		if tell(x) != before {
			t.Fatal("a tree changed")
		}
		kept := maps.Clone(first)
		x.Remove(1)
		x.Set(0, api.Style{Width: px(7)})
		clear(Lay(x, 50, 50))
		if !maps.Equal(first, kept) {
			t.Fatal("an answer changed")
		}
		if !maps.Equal(Lay(x, 50, 50), model{x, 50, 50}.all()) {
			t.Fatal("something was kept")
		}
	}
}

// TestBlocksDoNotRunIntoEachOther holds what the chapter says: without margins
// below 0 each begins where the one ahead ends, or further down.
func TestBlocksDoNotRunIntoEachOther(t *testing.T) {
	c := chance{rand.New(rand.NewSource(5)), 90}
	for range 3000 {
		x := c.tree(9)
		for _, id := range x.Order() {
			s := x.Style(id)
			for side, m := range s.Margin {
				if m.Kind == api.Px {
					s.Margin[side].N = max(m.N, -m.N)
				}
			}
			s.Inset = [4]api.Len{}
			x.Set(id, s)
		}
		got := Lay(x, 200, 100)
		for id := range got {
			if x.Style(id).Display != api.ShowBlock {
				continue
			}
			end := 0
			for _, kid := range Flows(x, id) {
				if got[kid].Y < end {
					t.Fatal(id, got, tell(x))
				}
				end = got[kid].Y + got[kid].H
			}
		}
	}
}

// TestDeep holds that trees as deep, and as large, as they may be are laid soon:
// each box is laid again and again by those above it.
func TestDeep(t *testing.T) {
	for d := api.ShowBlock; d <= api.ShowColumn; d++ {
		for align := api.AlignStretch; align <= api.AlignEnd; align++ {
			x := tree.New()
			up := 0
			for depth := range 64 {
				s := api.Style{Display: d, Align: align, Grow: 1, Shrink: 1, Gap: 1, Content: [2]int{50, 50}}
				if depth == 0 {
					s.Height = px(1 << 20)
				} else if depth%3 == 0 {
					s.Height = per(9000 + 13*depth)
				}
				x.Set(up, s)
				if depth < 63 {
					for range 60 {
						x.Add(up, 0)
					}
					up, _ = x.Add(up, len(x.Kids(up))/2)
				}
			}
			if got := Lay(x, 1<<20, 100); len(got) != x.Len() || x.Len() < 3800 {
				t.Error(len(got), x.Len())
			}
		}
	}
}

// TestAnyWindow holds that every call ends, and none panics.
func TestAnyWindow(t *testing.T) {
	c := chance{rand.New(rand.NewSource(6)), api.Most}
	numbers := []int{math.MinInt, math.MinInt + 1, -1, 0, 1, api.Most, 1 << 62, math.MaxInt - 1, math.MaxInt}
	for range 500 {
		x := c.tree(12)
		for _, w := range numbers {
			for _, h := range numbers {
				for id, one := range Lay(x, w, h) {
					if min(one.X, one.Y, one.W, one.H) < -api.Most || max(one.X, one.Y, one.W, one.H) > api.Most || min(one.W, one.H) < 0 {
						t.Fatal(id, one, w, h)
					}
				}
			}
		}
	}
}
