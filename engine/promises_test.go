package engine

import (
	"maps"
	"math"
	"math/rand"
	"slices"
	"testing"

	"valance/api"
	"valance/place"
	"valance/point"
)

// TestAnything holds that operations of anything end, that offsets stay within their
// ranges, and that nothing changes with an error.
func TestAnything(t *testing.T) {
	c := chance{rand.New(rand.NewSource(20))}
	for range 60 {
		e := New(c.anything(), c.anything())
		for range 120 {
			o := api.Op{Kind: api.OpKind(c.Intn(11) - 1), A: c.Intn(8), B: c.Intn(4), C: c.Intn(4), Style: c.style()}
			for _, n := range []*int{&o.A, &o.B, &o.C} {
				if c.oneIn(8) {
					*n = c.anything()
				}
			}
			if o.Kind == api.OpRemove && !c.oneIn(6) || c.oneIn(40) {
				o.Kind = api.OpKind(c.anything())
			}
			c.far(&o.Style)
			was := knownOf(e)
			a := e.Do(o)
			if a.Err != api.OK && (a.Rect != api.Rect{} || !was.same(knownOf(e))) {
				t.Fatalf("%v answers %v, and changes something", o, a)
			}
			within(t, e)
		}
	}
}

// anything is a number.
func (c chance) anything() int {
	l := []int{-1, 0, 1, 9, 100, 1 << 20, 1<<20 + 1, api.Most, -api.Most, math.MaxInt, math.MinInt, c.Int(), -c.Int()}
	return l[c.Intn(len(l))]
}

// far lets a style now and then go as far as styles may, and farther.
func (c chance) far(s *api.Style) {
	for _, l := range []*api.Len{&s.Width, &s.Height, &s.MinHeight, &s.Margin[c.Intn(4)], &s.Inset[c.Intn(4)]} {
		switch c.Intn(12) {
		case 0:
			*l = px(1 << 20)
		case 1:
			*l = per(1000000)
		case 2:
			*l = api.Len{Kind: api.LenKind(c.anything()), N: c.anything()}
		}
	}
	if c.oneIn(9) {
		s.Padding[c.Intn(4)], s.Border[c.Intn(4)] = c.anything(), 1<<20
	}
	if c.oneIn(9) {
		s.Snap, s.Edge = api.SnapKind(c.Intn(5)-1), api.SnapAlign(c.Intn(6)-1)
	}
}

// within holds that all offsets are within their ranges.
func within(t *testing.T, e *Engine) {
	t.Helper()
	rects := e.Rects()
	for _, id := range e.Tree().Order() {
		by, most := e.Offset(id), place.Most(e.Tree(), rects, id)
		if !point.Whole(by) || point.Within(by, 0, most) != by {
			t.Fatalf("%d is scrolled by %v, of at most %v", id, by, most)
		}
	}
}

// TestSettled holds that who has settled stays so: a window that stays as it is
// changes nothing, where nothing sticks.
func TestSettled(t *testing.T) {
	c := chance{rand.New(rand.NewSource(21))}
	for range 150 {
		e, m := New(100, 60), newModel(100, 60)
		for step := range 40 {
			o := c.growing(m, step)
			if step >= 24 {
				o = c.op(m)
			}
			if o.Style.Position == api.PosSticky {
				continue
			}
			e.Do(o)
			m.do(o)
			was := knownOf(e)
			if a := e.Do(api.Op{Kind: api.OpView, A: m.w, B: m.h}); a != (api.Answer{}) || !was.same(knownOf(e)) {
				t.Fatalf("behind %v something changes: %v, in\n%s", o, a, tell(e.Tree()))
			}
		}
	}
}

// TestHowTheyCame holds that where boxes are doesn't depend on how they came there:
// an engine whose tree and window come to be another way has its boxes at the same
// places, and, if they are scrolled alike, they are seen alike.
func TestHowTheyCame(t *testing.T) {
	c := chance{rand.New(rand.NewSource(22))}
	for range 150 {
		e, m := New(100, 60), newModel(100, 60)
		for step := range 60 {
			o := c.op(m)
			if step < 24 {
				o = c.growing(m, step)
			}
			e.Do(o)
			m.do(o)
		}
		other, names := again(t, e)
		other.Do(api.Op{Kind: api.OpView, A: m.w, B: m.h})
		rects, spots := map[int]api.Rect{}, map[int]place.Spot{}
		for id, r := range e.Rects() {
			rects[names[id]] = r
		}
		if got := other.Rects(); !maps.Equal(got, rects) {
			t.Fatalf("%v, want %v, of\n%s", got, rects, tell(e.Tree()))
		}
		for id := range e.Rects() {
			other.Do(api.Op{Kind: api.OpScroll, A: names[id], B: point.X(e.Offset(id)), C: point.Y(e.Offset(id))})
			if other.Offset(names[id]) != e.Offset(id) && e.Tree().Style(id).Snap == api.SnapNone {
				t.Fatalf("%d is scrolled by %v, want %v", id, other.Offset(names[id]), e.Offset(id))
			}
			other.offsets[names[id]] = e.Offset(id) // whatever it snaps to
		}
		for id, spot := range e.Spots() {
			spots[names[id]] = spot
		}
		if got := other.Spots(); !maps.Equal(got, spots) {
			t.Fatalf("%v, want %v, of\n%s", got, spots, tell(e.Tree()))
		}
	}
}

// again is an engine with such a tree, whose boxes come from the last to the first,
// and their numbers there.
func again(t *testing.T, e *Engine) (*Engine, map[int]int) {
	t.Helper()
	other, names := New(7, 7), map[int]int{}
	var enter func(id, to int)
	enter = func(id, to int) {
		names[id] = to
		kids := e.Tree().Kids(id)
		slices.Reverse(kids)
		for _, kid := range kids {
			a := other.Do(api.Op{Kind: api.OpAdd, A: to})
			if a.Err != api.OK {
				t.Fatal(a)
			}
			enter(kid, a.N)
		}
		if a := other.Do(api.Op{Kind: api.OpStyle, A: to, Style: e.Tree().Style(id)}); a.Err != api.OK {
			t.Fatal(a)
		}
	}
	enter(0, 0)
	return other, names
}

// TestDeep holds scrollers in each other, as deep as boxes may be: each keeps its own
// anchor, whatever those do that it is in.
func TestDeep(t *testing.T) {
	x := newTrial(t)
	up, l := 0, []int{}
	for range (api.MaxDepth - 2) / 2 {
		up = x.add(up, scrolls, high(40))
		l = append(l, up)
		x.add(up, high(10))
		up = x.add(up)
	}
	x.add(up, high(100))
	if got := x.e.Tree().Depth(up); got != api.MaxDepth-2 {
		t.Fatal("not as deep", got)
	}
	x.answers("too deep", api.Op{Kind: api.OpAdd, A: up + 1}, api.Answer{N: -1, Err: api.ErrDeep})
	for _, id := range l {
		x.scroll(id, 0, 10)
		x.down("each is scrolled", id, 10)
	}
	for _, id := range l {
		x.set(id+1, high(7))
	}
	for _, id := range l {
		x.down("each is kept", id, 7)
	}
	for at, id := range l {
		x.set(id, visible)
		for _, in := range l[at+1:] {
			x.down("what is in it is scrolled as it was", in, 7)
		}
		x.down("this one is not", id, 0)
	}
}

// TestFull holds a tree with as many boxes as there may be, all of them in one
// scroller.
func TestFull(t *testing.T) {
	x := newTrial(t)
	x.set(0, scrolls, func(s *api.Style) { s.Height = per(api.Whole) })
	for x.e.Tree().Len() < api.MaxBoxes {
		id, err := x.e.Tree().Add(0, 0)
		if err != api.OK || x.e.Tree().Set(id, with(high(10))) != api.OK {
			t.Fatal(err)
		}
	}
	x.answers("no more", api.Op{Kind: api.OpAdd}, api.Answer{N: -1, Err: api.ErrFull})
	last := x.e.Tree().Kids(0)[api.MaxBoxes-2]
	x.answers("how far it can be scrolled", api.Op{Kind: api.OpOffset}, api.Answer{Rect: r(0, 0, 0, 10*(api.MaxBoxes-1)-60)})
	x.scroll(0, 0, 20000)
	x.set(api.MaxBoxes-1, high(25))
	x.down("the first one is higher", 0, 20015)
	x.remove(api.MaxBoxes - 1)
	x.down("the first one is gone", 0, 19990)
	x.set(0, snaps(api.SnapMandatory))
	x.set(last, edge(api.EdgeEnd))
	x.down("the last one is where it snaps to", 0, 10*(api.MaxBoxes-2)-60)
}
