package place

import (
	"maps"
	"math"
	"testing"

	"valance/api"
	"valance/flow"
	"valance/rect"
	"valance/tree"
)

var (
	half = complex(0.5, 0)
	nan  = complex(math.NaN(), 3)
	far  = complex(math.Inf(1), math.Inf(-1))
)

// spots holds all boxes, in their numbers' order, against where they are, in a
// window of 100, 90.
func (x scene) spots(name string, offsets map[int]complex128, want ...api.Rect) {
	x.t.Helper()
	got := Spots(x.x, x.m, offsets, 100, 90)
	if len(got) != len(want) {
		x.t.Errorf("%s: spots of %d boxes, want %d", name, len(got), len(want))
	}
	for id, one := range want {
		if at, ok := got[id]; !ok || at.Rect != one {
			x.t.Errorf("%s: %d is at %v, want %v", name, id, at.Rect, one)
		}
	}
}

// clips holds all boxes, likewise, against in what they are seen.
func (x scene) clips(name string, offsets map[int]complex128, want ...api.Rect) {
	x.t.Helper()
	got := Spots(x.x, x.m, offsets, 100, 90)
	for id, one := range want {
		if got[id].Clip != one {
			x.t.Errorf("%s: %d is seen in %v, want %v", name, id, got[id].Clip, one)
		}
	}
}

func TestSpotsOneInTheOther(t *testing.T) {
	x := newScene(t, with(border(5, 5, 5, 5)), r(3, 4, 60, 50))
	x.add(0, with(padding(5, 5, 5, 5)), r(10, 20, 30, 40))
	x.add(1, with(absolute), r(-100, 7, 5, 6))
	x.add(0, with(), r(1, 2, 0, -9))
	x.add(3, with(), r(1, 2, 3, 4))
	x.spots("each from where the border of the one that it is in begins", nil,
		r(3, 4, 60, 50), r(13, 24, 30, 40), r(-87, 31, 5, 6), r(4, 6, 0, -9), r(5, 8, 3, 4))
	window := r(0, 0, 100, 90)
	x.clips("in the window", nil, window, window, window, window, window)
}

func TestSpotsScrolled(t *testing.T) {
	x := newScene(t, with(), r(0, 0, 100, 90))
	x.add(0, with(scrolls, border(2, 2, 2, 2)), r(10, 10, 54, 34)) // its port: 50, 30
	x.add(1, with(), r(2, 2, 70, 45))                              // 20 and 15 too large
	x.add(2, with(), r(5, 5, 5, 5))
	x.add(0, with(), r(70, 70, 5, 5))
	for _, c := range []struct {
		name    string
		by      complex128
		wantAt2 api.Rect
	}{
		{"not at all", 0, r(12, 12, 70, 45)},
		{"across", 7, r(5, 12, 70, 45)},
		{"down", 8i, r(12, 4, 70, 45)},
		{"both ways", 7 + 8i, r(5, 4, 70, 45)},
		{"as far as it can be", 20 + 15i, r(-8, -3, 70, 45)},
		{"no farther", 21 + 16i, r(-8, -3, 70, 45)},
		{"much farther", p(math.MaxInt, math.MaxInt), r(-8, -3, 70, 45)},
		{"no less", -1 - 1i, r(12, 12, 70, 45)},
		{"each way by itself", -1 + 900i, r(12, -3, 70, 45)},
		{"what is no number", nan, r(12, 12, 70, 45)},
		{"what is not whole", half + 3i, r(12, 12, 70, 45)},
		{"what is beyond all", far, r(12, 12, 70, 45)},
		{"beyond the limit", 2 * most, r(12, 12, 70, 45)},
	} {
		at := c.wantAt2
		x.spots(c.name, map[int]complex128{1: c.by},
			r(0, 0, 100, 90), r(10, 10, 54, 34), at, r(at.X+5, at.Y+5, 5, 5), r(70, 70, 5, 5))
	}
	others := map[int]complex128{0: 5 + 5i, 2: 5 + 5i, 3: 5 + 5i, 4: 5 + 5i, 9: 5 + 5i, -1: 5 + 5i}
	x.spots("what doesn't scroll", others, r(0, 0, 100, 90), r(10, 10, 54, 34), r(12, 12, 70, 45), r(17, 17, 5, 5), r(70, 70, 5, 5))
	x.x.Set(1, with(clips, border(2, 2, 2, 2)))
	x.spots("what clips alone", map[int]complex128{1: 7 + 8i}, r(0, 0, 100, 90), r(10, 10, 54, 34), r(12, 12, 70, 45), r(17, 17, 5, 5), r(70, 70, 5, 5))
}

func TestSpotsScrolledInEachOther(t *testing.T) {
	x := newScene(t, with(scrolls), r(0, 0, 100, 50))
	x.add(0, with(scrolls), r(0, 10, 100, 80))
	x.add(1, with(), r(0, 20, 130, 100))
	x.add(2, with(absolute), r(1, 1, 1, 1))
	x.spots("both, and the root", map[int]complex128{0: 15i, 1: 30 + 25i},
		r(0, 0, 100, 50), r(0, -5, 100, 80), r(-30, -10, 130, 100), r(-29, -9, 1, 1))
	x.spots("each as far as it can be", map[int]complex128{0: 900 + 900i, 1: 900 + 900i},
		r(0, 0, 100, 50), r(0, -30, 100, 80), r(-30, -50, 130, 100), r(-29, -49, 1, 1))
}

// TestSpotsBeyondTheLimit holds that each move is cut: first that to where the one
// that it is in begins, then that back.
func TestSpotsBeyondTheLimit(t *testing.T) {
	x := newScene(t, with(scrolls), r(10, -10, 9, 9))
	x.add(0, with(), r(most-5, 5-most, 3, 4))
	x.add(0, with(), r(0, 0, 9, 50))
	x.spots("each move is cut", map[int]complex128{0: 3}, r(10, -10, 9, 9), r(most-3, -most, 3, 4), r(7, -10, 9, 50))
	x.m[0] = r(math.MaxInt, math.MinInt, math.MaxInt, 9)
	x.spots("where m has it, and no farther", nil, x.m[0], r(most, -most, 3, 4), r(most, -most, 9, 50))
}

func TestSpotsFixed(t *testing.T) {
	x := newScene(t, with(), r(5, 5, 90, 80))
	x.add(0, with(scrolls), r(10, 10, 50, 30))
	x.add(1, with(), r(0, 0, 50, 100))
	x.add(2, with(fixed, clips), r(7, 8, 20, 20))
	x.add(3, with(), r(3, 4, 5, 6))
	x.add(3, with(fixed), r(1, 2, 3, 4))
	by := map[int]complex128{1: 40i}
	x.spots("where m has it, in the window, and what is in it from there", by,
		r(5, 5, 90, 80), r(15, 15, 50, 30), r(15, -25, 50, 100), r(7, 8, 20, 20), r(10, 12, 5, 6), r(1, 2, 3, 4))
	window := r(0, 0, 100, 90)
	x.clips("it is seen in the window, whatever it is in", by, window, window, r(15, 15, 50, 30), window, r(7, 8, 20, 20), window)
	for _, at := range []api.Position{api.PosRelative, api.PosAbsolute, api.PosFixed, api.PosSticky} {
		s := api.Style{Position: at, Inset: [4]api.Len{px(50), px(50), px(50), px(50)}, Overflow: api.OverScroll}
		y := newScene(t, s, r(-7, -8, 9, 9))
		y.add(0, with(), r(0, 0, 3, 15))
		y.spots("the root", map[int]complex128{0: 90i}, r(-7, -8, 9, 9), r(-7, -14, 3, 15))
		y.clips("the root", nil, window, rect.Of(0, 0, 2, 1))
	}
}

func TestSpotsClip(t *testing.T) {
	window, zero := r(0, 0, 100, 90), r(0, 0, 0, 0)
	x := newScene(t, with(), r(0, 0, 100, 50))
	x.add(0, with(clips, border(1, 2, 3, 4), padding(9, 9, 9, 9)), r(10, 10, 60, 40))
	x.add(1, with(), r(20, 20, 100, 100)) // at 30, 30
	x.add(2, with(scrolls), r(10, -25, 200, 30))
	x.add(3, with(), r(0, 0, 300, 10))
	x.add(4, with(clips), r(0, 5, 10, 99))
	x.add(5, with(), r(0, 0, 5, 5))
	x.add(5, with(absolute), r(0, 0, 5, 5))
	port := r(14, 11, 54, 36)
	x.clips("what is not visible clips what is in it, but not itself", nil, window, window, port, port, r(40, 11, 28, 24), r(40, 11, 28, 24), r(40, 11, 10, 24), r(40, 11, 10, 24))
	x.clips("by where it is, scrolled", map[int]complex128{3: 4}, window, window, port, port, r(40, 11, 28, 24), r(40, 11, 28, 24), r(40, 11, 6, 24), r(40, 11, 6, 24))
	x.m[4] = r(300, 0, 300, 10)
	x.clips("nothing of it", nil, window, window, port, port, r(40, 11, 28, 24), r(40, 11, 28, 24), zero, zero)
	x.m[1] = r(10, 10, 6, 40)
	x.clips("no port, and all in it", nil, window, window, zero, zero, zero, zero, zero, zero)
	x.m[1], x.m[4] = r(10, 10, 60, 40), r(0, 0, 300, 10)
	x.x.Set(0, with(clips))
	x.clips("the root, too", nil, window, r(0, 0, 100, 50), r(14, 11, 54, 36))
	x.m[0] = r(-50, 0, 90, 20)
	x.clips("the root, elsewhere", nil, window, r(0, 0, 40, 20), r(0, 11, 18, 9))
}

func TestSpotsWindow(t *testing.T) {
	for _, c := range []struct {
		w, h int
		want api.Rect
	}{
		{100, 90, r(0, 0, 100, 90)}, {0, 90, r(0, 0, 0, 90)}, {-5, -6, r(0, 0, 0, 0)}, {7, -6, r(0, 0, 7, 0)},
		{math.MaxInt, most + 1, r(0, 0, most, most)}, {math.MinInt, math.MinInt, r(0, 0, 0, 0)},
	} {
		x := newScene(t, with(), r(1, 1, 9, 9))
		x.add(0, with(fixed), r(2, 2, 9, 9))
		x.add(0, with(), r(3, 3, 9, 9))
		x.add(0, with(sticks(px(0), px(0), px(0), px(0))), r(0, 0, 3, 3))
		for id, spot := range Spots(x.x, x.m, nil, c.w, c.h) {
			if spot.Clip != c.want {
				t.Errorf("%d, %d: %d is seen in %v", c.w, c.h, id, spot.Clip)
			}
		}
	}
}

// TestSpotsOfWhatIsNot holds that what the tree has not, or m, counts for nothing,
// and neither what is in it.
func TestSpotsOfWhatIsNot(t *testing.T) {
	x := newScene(t, with(scrolls), r(0, 0, 10, 10))
	x.add(0, with(), r(1, 1, 10, 10))
	x.add(1, with(fixed), r(2, 2, 10, 10))
	x.add(2, with(sticks(px(5))), r(3, 3, 10, 10))
	x.m[9], x.m[-1], x.m[math.MinInt] = r(0, 0, 99, 99), r(0, 0, 9, 9), r(0, 0, 8, 8)
	by := map[int]complex128{0: 1 + 1i}
	x.spots("all", by, r(0, 0, 10, 10), r(0, 0, 10, 10), r(2, 2, 10, 10), r(5, 5, 10, 10))
	delete(x.m, 2)
	x.spots("not what is in it", by, r(0, 0, 10, 10), r(0, 0, 10, 10))
	x.m[2] = r(2, 2, 10, 10)
	delete(x.m, 1)
	x.spots("not what is fixed in it, and the root is not scrolled", by, r(0, 0, 10, 10))
	x.m[1] = r(1, 1, 10, 10)
	delete(x.m, 0)
	x.spots("nothing", by)
}

// TestSpotsSticky is of a box of 10, 10 in one of its own, that is in a scroller of
// 60, 50 at 10, 10, whose sides have 1 as a border.
func TestSpotsSticky(t *testing.T) {
	auto := api.Len{}
	for _, c := range []struct {
		name   string
		inset  []api.Len
		at     api.Rect // in what it is in
		by     complex128
		dx, dy int // from where it would be
	}{
		{"by no side", nil, r(20, 20, 10, 10), 30 + 40i, 0, 0},
		{"by the top one", []api.Len{px(3)}, r(20, 20, 10, 10), 40i, 0, 13},
		{"by the top one, not yet", []api.Len{px(3)}, r(20, 20, 10, 10), 27i, 0, 0},
		{"by the top one, at once", []api.Len{px(3)}, r(20, 20, 10, 10), 28i, 0, 1},
		{"by the top one, below 0", []api.Len{px(-3)}, r(20, 20, 10, 10), 40i, 0, 7},
		{"by a part of the port's height", []api.Len{per(2500)}, r(20, 20, 10, 10), 40i, 0, 22},
		{"by the left one", []api.Len{auto, auto, auto, px(3)}, r(20, 20, 10, 10), 30, 3, 0},
		{"by a part of the port's width", []api.Len{auto, auto, auto, per(2500)}, r(20, 20, 10, 10), 30, 14, 0},
		{"by both", []api.Len{px(3), auto, auto, px(3)}, r(20, 20, 10, 10), 30 + 40i, 3, 13},
		{"by the right one", []api.Len{auto, px(3)}, r(60, 20, 10, 10), 0, -25, 0},
		{"by the bottom one", []api.Len{auto, auto, px(3)}, r(20, 50, 10, 10), 0, 0, -25},
		{"no farther than what it is in, down", []api.Len{px(3)}, r(20, 84, 10, 10), p(0, 91), 0, 0},
		{"no farther than what it is in, and its edges", []api.Len{px(3)}, r(20, 82, 10, 10), p(0, 91), 0, 1},
		{"no farther than what it is in, up", []api.Len{auto, auto, px(40)}, r(20, 20, 10, 10), 0, 0, -13},
	} {
		x := newScene(t, with(), r(0, 0, 100, 90))
		x.add(0, with(scrolls, border(1, 1, 1, 1)), r(10, 10, 60, 50))
		x.add(1, with(border(3, 3, 3, 3), padding(4, 4, 4, 4)), r(11, 11, 100, 100))
		x.add(2, with(sticks(c.inset...)), c.at)
		x.add(3, with(), r(1, 2, 3, 4))
		x.add(1, with(), r(1, 1, 300, 300))
		got := Spots(x.x, x.m, map[int]complex128{1: c.by}, 100, 90)
		up := got[2].Rect
		want := r(up.X+c.at.X+c.dx, up.Y+c.at.Y+c.dy, 10, 10)
		if got[3].Rect != want {
			t.Errorf("%s: %v, want %v", c.name, got[3].Rect, want)
		}
		if in := r(want.X+1, want.Y+2, 3, 4); got[4].Rect != in {
			t.Errorf("%s: what is in it: %v, want %v", c.name, got[4].Rect, in)
		}
		if got[3].Clip != r(11, 11, 58, 48) || got[4].Clip != got[3].Clip {
			t.Errorf("%s: seen in %v", c.name, got[3].Clip)
		}
	}
}

// TestSpotsStickyJustInAScroller holds that it sticks within the scroller's own
// rectangle, which is scrolled as it is.
func TestSpotsStickyJustInAScroller(t *testing.T) {
	x := newScene(t, with(), r(0, 0, 100, 90))
	x.add(0, with(scrolls, border(1, 1, 1, 1), padding(2, 2, 2, 2)), r(10, 10, 60, 50)) // within its edges: 54, 44
	x.add(1, with(), r(3, 3, 54, 300))
	x.add(1, with(sticks(px(0))), r(3, 3, 54, 10))
	for by, y := range map[complex128]int{0: 13, 2i: 11, 10i: 11, 36i: 11, 37i: 10, 50i: -3, 254i: -207, 900i: -207} {
		got := Spots(x.x, x.m, map[int]complex128{1: by}, 100, 90)[3].Rect
		if got != r(13, y, 54, 10) {
			t.Errorf("%v: %v, want it at %d", by, got, y)
		}
	}
}

// TestSpotsStickyToTheWindow holds what sticks to the window, or to a scroller that
// is farther off than the box that it is in, or that sticks, or is fixed, itself.
func TestSpotsStickyToTheWindow(t *testing.T) {
	top := sticks(px(5))
	x := newScene(t, with(), r(0, -60, 100, 200))
	x.add(0, with(clips), r(0, 10, 100, 150))
	x.add(1, with(top), r(0, 20, 100, 10))
	x.spots("to the window", nil, r(0, -60, 100, 200), r(0, -50, 100, 150), r(0, 5, 100, 10))
	x.x.Set(2, with(sticks(per(5000))))
	x.spots("by a part of it", nil, r(0, -60, 100, 200), r(0, -50, 100, 150), r(0, 45, 100, 10))
	x.x.Set(2, with(top))
	x.x.Set(0, with(scrolls))
	x.spots("to the root", nil, r(0, -60, 100, 200), r(0, -50, 100, 150), r(0, -30, 100, 10))
	x.x.Set(1, with(fixed))
	x.m[1] = r(0, -90, 100, 150)
	x.spots("to the root, from what is fixed", nil, r(0, -60, 100, 200), r(0, -90, 100, 150), r(0, -55, 100, 10))
	y := newScene(t, with(), r(0, 0, 100, 90))
	y.add(0, with(top, scrolls), r(0, -10, 100, 50))
	y.add(1, with(), r(0, 0, 100, 150))
	y.add(2, with(top), r(0, 10, 100, 10))
	y.add(2, with(top, fixed), r(0, -10, 100, 10))
	y.add(3, with(top), r(0, 0, 100, 5))
	y.spots("to one that sticks", map[int]complex128{1: 30i}, r(0, 0, 100, 90), r(0, 5, 100, 50), r(0, -25, 100, 150), r(0, 10, 100, 10), r(0, -10, 100, 10), r(0, 10, 100, 5))
}

// TestSpotsAsLaid is of boxes that flow.Lay lays.
func TestSpotsAsLaid(t *testing.T) {
	x := tree.New()
	x.Set(0, api.Style{Padding: [4]int{4, 4, 4, 4}})
	for i, s := range []api.Style{
		{Overflow: api.OverScroll, Height: px(30)},
		{Height: px(10), Content: [2]int{5, 5}},
		{Position: api.PosSticky, Inset: [4]api.Len{px(0)}, Height: px(10)},
		{Height: px(50)},
		{Position: api.PosFixed, Inset: [4]api.Len{{}, px(0), px(0), {}}, Content: [2]int{6, 7}},
	} {
		id, _ := x.Add(min(i, 1), max(i-1, 0))
		x.Set(id, s)
	}
	window, port := r(0, 0, 100, 90), r(4, 4, 92, 30)
	for by, want := range map[complex128][3]int{0: {4, 14, 24}, 15i: {-11, 4, 9}, 25i: {-21, -1, -1}, 99i: {-36, -16, -16}} {
		got := Spots(x, flow.Lay(x, 100, 90), map[int]complex128{1: by}, 100, 90)
		all := map[int]Spot{
			0: {r(0, 0, 100, 38), window}, 1: {port, window},
			2: {r(4, want[0], 92, 10), port}, 3: {r(4, want[1], 92, 10), port}, 4: {r(4, want[2], 92, 50), port},
			5: {r(94, 83, 6, 7), window},
		}
		if !maps.Equal(got, all) {
			t.Errorf("%v: %v, want %v", by, got, all)
		}
	}
}
