package script

import (
	"math/rand"
	"slices"
	"testing"

	"valance/api"
)

// The promises of the whole are held here by scripts alone: by what is answered of
// numbers, whatever is kept between them.

func add(up, at int) api.Op { return api.Op{Kind: api.OpAdd, A: up, B: at} }

func remove(id int) api.Op { return api.Op{Kind: api.OpRemove, A: id} }

func move(id, up, at int) api.Op { return api.Op{Kind: api.OpMove, A: id, B: up, C: at} }

func set(id int, s api.Style) api.Op { return api.Op{Kind: api.OpStyle, A: id, Style: s} }

func scroll(id, down int) api.Op { return api.Op{Kind: api.OpScroll, A: id, C: down} }

func view(w, h int) api.Op { return api.Op{Kind: api.OpView, A: w, B: h} }

func hit(x, y int) api.Op { return api.Op{Kind: api.OpHit, A: x, B: y} }

func where(id int) api.Op { return api.Op{Kind: api.OpRect, A: id} }

func offset(id int) api.Op { return api.Op{Kind: api.OpOffset, A: id} }

func high(n int) api.Style { return api.Style{Height: px(n)} }

// scroller is a style that scrolls, n high.
func scroller(n int) api.Style {
	return api.Style{Height: px(n), Overflow: api.OverScroll}
}

// play is what is answered of operations in a window of 100, 60.
func play(t *testing.T, l ...api.Op) []api.Answer {
	t.Helper()
	n, err := Put(l)
	if err != api.OK {
		t.Fatalf("%v can't be put: %v", l, err)
	}
	a := Play(100, 60, n)
	if len(a) != len(l) {
		t.Fatalf("%d operations have %d answers", len(l), len(a))
	}
	return a
}

// last is what is answered of the last operation, where all are right.
func last(t *testing.T, l ...api.Op) api.Answer {
	t.Helper()
	a := play(t, l...)
	for at, one := range a {
		if one.Err != api.OK {
			t.Fatalf("%v: %v", l[at], one.Err)
		}
	}
	return a[len(a)-1]
}

func rectOf(x, y, w, h int) api.Answer { return api.Answer{Rect: api.Rect{X: x, Y: y, W: w, H: h}} }

// TestExamplesOfTheWhole holds those of the ten that operations can tell.
func TestExamplesOfTheWhole(t *testing.T) {
	grow := func(base, by int) api.Style { return api.Style{Basis: px(base), Grow: by} }
	row := func(w int, justify api.Justify) api.Style {
		// With no margins told, both would take what the width leaves.
		return api.Style{Display: api.ShowRow, Width: px(w), Justify: justify, Margin: [4]api.Len{api.Right: px(0), api.Left: px(0)}}
	}
	two := func(up, one, other api.Style) []api.Op {
		return []api.Op{add(0, 0), set(1, up), add(1, 0), add(1, 1), set(2, one), set(3, other)}
	}
	stuck := api.Style{Position: api.PosSticky, Height: px(4), Inset: [4]api.Len{api.Top: px(5)}}
	snaps := scroller(20)
	snaps.Snap = api.SnapMandatory
	start := func(n int) api.Style { return api.Style{Height: px(n), Edge: api.EdgeStart} }
	for name, x := range map[string]struct {
		ops  []api.Op
		asks api.Op
		want api.Answer
	}{
		"3, one":      {two(row(35, api.JustStart), grow(10, 1), grow(10, 2)), where(2), rectOf(0, 0, 15, 0)},
		"3, other":    {two(row(35, api.JustStart), grow(10, 1), grow(10, 2)), where(3), rectOf(15, 0, 20, 0)},
		"4, between":  {two(row(10, api.JustBetween), grow(2, 0), grow(2, 0)), where(3), rectOf(8, 0, 2, 0)},
		"4, evenly 1": {two(row(10, api.JustEvenly), grow(2, 0), grow(2, 0)), where(2), rectOf(2, 0, 2, 0)},
		"4, evenly 2": {two(row(10, api.JustEvenly), grow(2, 0), grow(2, 0)), where(3), rectOf(6, 0, 2, 0)},
		"5":           {slices.Concat(two(scroller(50), high(10), stuck), []api.Op{add(1, 2), set(4, high(86)), scroll(1, 30)}), where(3), rectOf(0, 5, 100, 4)},
		"6":           {slices.Concat(two(snaps, start(100), start(40)), []api.Op{scroll(1, 60)}), offset(1), rectOf(0, 100, 0, 120)},
		"7":           {[]api.Op{add(0, 0), set(1, api.Style{Content: [2]int{30, 20}})}, where(1), rectOf(0, 0, 100, 20)},
		"8":           {[]api.Op{add(0, 0), set(1, scroller(50)), add(1, 0), set(2, high(80)), scroll(1, 99)}, offset(1), rectOf(0, 30, 0, 30)},
		"10":          {slices.Concat(two(scroller(50), high(8), high(200)), []api.Op{scroll(1, 10), set(2, high(13))}), offset(1), rectOf(0, 15, 0, 163)},
	} {
		if got := last(t, append(x.ops, x.asks)...); got != x.want {
			t.Errorf("example %s: %v, want %v", name, got, x.want)
		}
	}
	behind := api.Style{Height: px(20), Margin: [4]api.Len{api.Top: px(-20)}}
	if got := last(t, append(two(api.Style{}, high(20), behind), hit(5, 5))...); got.N != 3 {
		t.Errorf("example 9: %d is hit, want the one behind in the tree", got.N)
	}
}

// plain is a style of what doesn't scroll: where it is hangs on the tree alone.
func plain(c *rand.Rand) api.Style {
	s := api.Style{
		Display: api.Display(c.Intn(3)), Position: api.Position(c.Intn(5)), Overflow: api.Overflow(c.Intn(2)),
		Wrap: c.Intn(2) == 0, Gap: c.Intn(5), Grow: c.Intn(3), Shrink: c.Intn(3), Z: c.Intn(5) - 2, Layer: c.Intn(2) == 0,
		Justify: api.Justify(c.Intn(6)), Align: api.Align(c.Intn(4)), Content: [2]int{c.Intn(40), c.Intn(40)},
	}
	s.Margin[c.Intn(4)], s.Inset[c.Intn(4)] = px(c.Intn(20)-8), px(c.Intn(20)-8)
	s.Padding[c.Intn(4)], s.Border[c.Intn(4)] = c.Intn(9), c.Intn(9)
	if c.Intn(2) == 0 {
		s.Width = px(c.Intn(90))
	}
	if c.Intn(3) == 0 {
		s.Height = px(c.Intn(60))
	}
	return s
}

// detour is what goes elsewhere, and comes back, when so many boxes are there.
func detour(c *rand.Rand, boxes int, styles []api.Style) []api.Op {
	id := c.Intn(boxes)
	switch c.Intn(4) {
	case 0:
		return []api.Op{add(id, 0), set(boxes, plain(c)), add(boxes, 0), hit(3, 4), remove(boxes)}
	case 1:
		return []api.Op{set(id, plain(c)), where(id), set(id, styles[id])}
	case 2:
		return []api.Op{view(c.Intn(300), c.Intn(300)), where(0), view(100, 60)}
	}
	return []api.Op{where(id), hit(c.Intn(100), c.Intn(60)), offset(id), scroll(id, 7), remove(0), add(0, -1)}
}

// asked is where all of so many boxes are, and what is hit.
func asked(boxes int) []api.Op {
	l := []api.Op{}
	for id := range boxes {
		l = append(l, where(id), offset(id))
	}
	for x := 0; x < 100; x += 9 {
		for y := 0; y < 60; y += 7 {
			l = append(l, hit(x, y))
		}
	}
	return l
}

// TestHowTheyCame holds that where boxes are, and what is hit, doesn't depend on how
// they came there (P3).
func TestHowTheyCame(t *testing.T) {
	c := rand.New(rand.NewSource(31))
	for range 60 {
		boxes, styles := 1, []api.Style{plain(c)}
		straight, around := []api.Op{set(0, styles[0])}, []api.Op{set(0, styles[0])}
		for range 12 {
			up, s := c.Intn(boxes), plain(c)
			straight = append(straight, add(up, 0), set(boxes, s))
			around = append(around, add(0, 0))
			if up != 0 {
				around = append(around, move(boxes, up, 0))
			}
			around = append(around, set(boxes, s))
			styles, boxes = append(styles, s), boxes+1
			around = append(around, detour(c, boxes, styles)...)
		}
		asks := asked(boxes)
		want, got := play(t, append(straight, asks...)...), play(t, append(around, asks...)...)
		want, got = want[len(want)-len(asks):], got[len(got)-len(asks):]
		for at, ask := range asks {
			if got[at] != want[at] {
				t.Fatalf("%v: %v, want %v", ask, got[at], want[at])
			}
		}
	}
}

// TestOffsetsAreWithin holds that every offset is within its range, after whatever is
// done (P4).
func TestOffsetsAreWithin(t *testing.T) {
	c := rand.New(rand.NewSource(32))
	for range 60 {
		l := []api.Op{}
		for range 60 {
			s := plain(c)
			s.Overflow, s.Snap, s.Edge = api.Overflow(c.Intn(3)), api.SnapKind(c.Intn(3)), api.SnapAlign(c.Intn(4))
			id, up := c.Intn(8), c.Intn(8)
			of := []api.Op{add(up, 0), add(up, 0), set(id, s), set(id, s), move(id, up, 0), scroll(id, c.Intn(90)-9), view(c.Intn(99), c.Intn(99)), remove(id + 2)}
			l = append(l, of[c.Intn(len(of))])
			for id := range 8 {
				l = append(l, offset(id))
			}
		}
		for at, a := range play(t, l...) {
			r := a.Rect
			if l[at].Kind == api.OpOffset && (r.X < 0 || r.X > r.W || r.Y < 0 || r.Y > r.H) {
				t.Fatalf("%v: %v", l[at], a)
			}
		}
	}
}

// TestSticks holds that what sticks moves no more than it must, and stays within what
// it is in (P4).
func TestSticks(t *testing.T) {
	stuck := api.Style{Position: api.PosSticky, Height: px(10), Inset: [4]api.Len{api.Top: px(5)}}
	l := []api.Op{add(0, 0), set(1, scroller(50)), add(1, 0), add(1, 1), add(1, 2), set(2, high(20)), set(3, high(60)), set(4, high(200)), add(3, 0), set(5, stuck)}
	for down := range 140 {
		begins := min(max(20, down+5), 70) // at 20 by itself, and not beyond where 3 ends
		if got := last(t, append(l, scroll(1, down), where(5))...); got != rectOf(0, begins-down, 100, 10) {
			t.Errorf("scrolled by %d it is at %v, want %d", down, got, begins-down)
		}
	}
}

// TestSeenStays holds that what is seen stays where it is, if it can, when what is
// ahead of it changes (P5).
func TestSeenStays(t *testing.T) {
	c := rand.New(rand.NewSource(33))
	for range 200 {
		was, is, down := c.Intn(40), c.Intn(40), 41+c.Intn(60)
		l := []api.Op{add(0, 0), set(1, scroller(50)), add(1, 0), set(2, high(was)), add(1, 1), set(3, high(300)), scroll(1, down)}
		changes := [][]api.Op{
			{set(2, high(is))},
			{add(1, 0), set(4, high(is))},
			{remove(2)},
			{move(2, 3, 0), set(2, high(is))},
		}
		change := changes[c.Intn(len(changes))]
		before := last(t, append(l, where(3))...)
		after := last(t, slices.Concat(l, change, []api.Op{where(3)})...)
		if before != after {
			t.Errorf("scrolled by %d, %v: %v is at %v", down, change, before, after)
		}
	}
}

// over tells how late a box in the root is painted: those that are no layers are at 0.
func over(s api.Style) int {
	if !s.Layer {
		return 0
	}
	return 2*s.Z + 1
}

// TestLastIsHit holds that what is hit is what is painted last of all that may be (P6).
func TestLastIsHit(t *testing.T) {
	c := rand.New(rand.NewSource(34))
	for range 200 {
		l, want, highest := []api.Op{}, 0, -99
		for id := range 4 {
			s := high(20)
			s.Position, s.Width = api.PosAbsolute, px(20)
			s.Inset[api.Top], s.Inset[api.Left] = px(0), px(0)
			s.Layer, s.Z, s.NoHit = c.Intn(2) == 0, c.Intn(5)-2, c.Intn(4) == 0
			l = append(l, add(0, id), set(id+1, s))
			if !s.NoHit && over(s) >= highest {
				want, highest = id+1, over(s)
			}
		}
		l = append(l, set(0, high(60)))
		if got := last(t, append(l, hit(10, 10))...).N; got != want {
			t.Fatalf("%d is hit, want %d, of %v", got, want, l)
		}
		if got := last(t, append(l, hit(20, 10))...).N; got != 0 {
			t.Fatalf("%d is hit beside them", got)
		}
	}
}

// TestRestsAtTheNearest holds that a scroller that must snap rests at a stop, the
// nearest one to where it was to go (P7).
func TestRestsAtTheNearest(t *testing.T) {
	c := rand.New(rand.NewSource(35))
	snaps := scroller(20)
	snaps.Snap = api.SnapMandatory
	for range 200 {
		l, stops, ends := []api.Op{add(0, 0), set(1, snaps)}, []int{}, 0
		for at := range 8 {
			s := high(1 + c.Intn(40))
			if at == 0 || c.Intn(2) == 0 {
				s.Edge = api.EdgeStart
				stops = append(stops, ends)
			}
			l, ends = append(l, add(1, at), set(at+2, s)), ends+s.Height.N
		}
		l, ends = append(l, add(1, 8), set(10, high(20))), ends+20
		want := c.Intn(ends)
		by := last(t, append(l, scroll(1, want), offset(1))...).Rect.Y
		far := func(stop int) int { return max(stop-min(want, ends-20), min(want, ends-20)-stop) }
		nearest := slices.MinFunc(stops, func(a, b int) int { return far(a) - far(b) })
		if !slices.Contains(stops, by) || far(by) != far(nearest) {
			t.Fatalf("to go to %d it rests at %d, of the stops %v", want, by, stops)
		}
	}
}
