package engine

import (
	"testing"

	"valance/api"
)

// TestForgets holds that how far a box is scrolled is forgotten once it is no
// scroller.
func TestForgets(t *testing.T) {
	for _, c := range []struct {
		name        string
		away, again func(x trial)
	}{
		{"styled otherwise", func(x trial) { x.set(1, visible) }, func(x trial) { x.set(1, scrolls) }},
		{"hidden", func(x trial) { x.set(1, hidden) }, func(x trial) { x.set(1, shown) }},
		{"in what is hidden", func(x trial) { x.set(0, hidden) }, func(x trial) { x.set(0, shown) }},
		{"gone", func(x trial) { x.remove(1) }, func(x trial) {
			x.add(0, scrolls, high(50))
			x.add(1, high(20))
			x.add(1, high(200))
		}},
	} {
		x := newScroller(t, 20, 200)
		x.scroll(1, 0, 30)
		c.away(x)
		x.down(c.name, 1, 0)
		c.again(x)
		x.down(c.name+", and as it was again", 1, 0)
		x.scroll(1, 0, 40)
		x.down(c.name+", and scrolled again", 1, 40)
	}
}

// TestMoved holds that a scroller stays scrolled as it is moved.
func TestMoved(t *testing.T) {
	x := newScroller(t, 20, 200)
	x.add(0)
	x.scroll(1, 0, 30)
	x.move(1, 4, 0)
	x.down("into another one", 1, 30)
	x.set(4, scrolls, high(20))
	x.down("in a scroller", 1, 30)
	x.down("that one is not scrolled", 4, 0)
	x.scroll(4, 0, 12)
	x.down("nor is it scrolled with that one", 1, 30)
	x.set(4, visible)
	x.down("in no scroller any more", 1, 30)
	x.down("that one is none", 4, 0)
}

// TestWithin holds that a scroller is back within its range behind each change.
func TestWithin(t *testing.T) {
	for _, c := range []struct {
		name         string
		change       func(x trial)
		across, down int
	}{
		{"nothing", func(x trial) { x.add(0) }, 30, 170},
		{"what is in it is less high", func(x trial) { x.set(3, high(150)) }, 30, 120},
		{"what is in it is less wide", func(x trial) { x.set(3, wide(110)) }, 10, 170},
		{"what is in it is neither", func(x trial) { x.set(3, high(20), wide(20)) }, 0, 0},
		{"it is higher", func(x trial) { x.set(1, high(90)) }, 30, 130},
		{"the window is wider", func(x trial) { x.view(125, 60) }, 5, 170},
		{"a box goes", func(x trial) { x.remove(3) }, 0, 0},
		{"a box moves", func(x trial) { x.move(3, 0, 0) }, 0, 0},
		{"a box is fixed", func(x trial) { x.set(3, at(api.PosFixed)) }, 0, 0},
		{"a box is hidden", func(x trial) { x.set(3, hidden) }, 0, 0},
		{"it has a border", func(x trial) { x.set(1, border(api.Left, 4), border(api.Bottom, 3)) }, 30, 170},
	} {
		x := newScroller(t, 20, 200)
		x.set(1, noAnchor)
		x.set(3, wide(130))
		x.scroll(1, 30, 170)
		c.change(x)
		x.both(c.name, 1, c.across, c.down)
	}
}

func TestAnchor(t *testing.T) {
	// Boxes are at 0 to 20, 20 to 50, 50 to 150; the port is at 25 to 75: of those the
	// second one is the first that is seen.
	for _, c := range []struct {
		name   string
		change func(x trial)
		want   int
	}{
		{"nothing", func(x trial) {}, 25},
		{"one ahead of it is higher", func(x trial) { x.set(2, high(25)) }, 30},
		{"one ahead of it is less high", func(x trial) { x.set(2, high(5)) }, 10},
		{"one ahead of it goes", func(x trial) { x.remove(2) }, 5},
		{"one ahead of it is hidden", func(x trial) { x.set(2, hidden) }, 5},
		{"one comes ahead of it", func(x trial) { x.do(api.Op{Kind: api.OpAdd, A: 1}); x.set(5, high(6)) }, 31},
		{"one behind it is higher", func(x trial) { x.set(4, high(900)) }, 25},
		{"one behind it is less high", func(x trial) { x.set(4, high(60)) }, 25},
		{"one behind it is so much less high that it is not seen as before", func(x trial) { x.set(4, high(10)) }, 10},
		{"one comes behind it", func(x trial) { x.add(1, high(40)) }, 25},
		{"itself is higher", func(x trial) { x.set(3, high(40)) }, 25},
		{"itself is empty", func(x trial) { x.set(3, high(0)) }, 25},
		{"it goes behind", func(x trial) { x.move(3, 1, 2) }, 100},
		{"it goes ahead", func(x trial) { x.move(3, 1, 0) }, 5},
		{"it is moved from where it is", func(x trial) { x.set(3, at(api.PosRelative), inset(api.Top, 7)) }, 32},
		{"it is gone", func(x trial) { x.remove(3) }, 25},
		{"it is hidden", func(x trial) { x.set(3, hidden) }, 25},
		{"it is elsewhere", func(x trial) { x.move(3, 0, 0) }, 25},
		{"it is as far as it can be", func(x trial) { x.set(2, high(900)); x.set(4, high(10)); x.set(3, high(30)) }, 890},
		{"the scroller is elsewhere", func(x trial) { x.ahead(0, high(9)) }, 25},
		{"the scroller has a border", func(x trial) { x.set(1, border(api.Top, 9)) }, 25},
		{"the scroller has a padding", func(x trial) { x.set(1, padding(api.Top, 9)) }, 34},
		{"the window is another one", func(x trial) { x.view(7, 7) }, 25},
	} {
		x := newScroller(t, 20, 30, 100)
		x.scroll(1, 0, 25)
		c.change(x)
		x.down(c.name, 1, c.want)
	}
}

// TestAnchorOfOld holds that an offset is kept from where it was ahead of a change,
// however the scroller is, and may be, behind it.
func TestAnchorOfOld(t *testing.T) {
	x := newScroller(t, 20, 30, 100)
	x.scroll(1, 0, 100)
	x.set(1, high(90)) // the port ends where the boxes do
	x.down("as far as it can be", 1, 60)
	x = newScroller(t, 100, 30, 100)
	x.scroll(1, 0, 110)
	x.set(2, high(70)) // within 150, as it was: less by 30
	x.down("less far", 1, 80)
	x = newScroller(t, 100, 10, 50, 40)
	x.scroll(1, 0, 105)
	x.set(2, high(0)) // within 50: it is held to 5, though 105 is cut to that, and less by 100
	x.down("not from where it is cut", 1, 5)
}

func TestNoAnchor(t *testing.T) {
	x := newScroller(t, 20, 30, 100)
	x.set(1, noAnchor)
	x.scroll(1, 0, 25)
	x.set(2, high(35))
	x.down("nothing is kept", 1, 25)
	x.set(1, anchored)
	x.scroll(1, 0, 40)
	x.set(2, high(40))
	x.down("by style, ahead of the change", 1, 45)
	s := x.e.Tree().Style(1)
	s.NoAnchor, s.Padding[api.Top] = true, 8
	x.do(api.Op{Kind: api.OpStyle, A: 1, Style: s})
	x.down("who has an anchor ahead of the change keeps it", 1, 53)
	s.NoAnchor, s.Padding[api.Top] = false, 0
	x.do(api.Op{Kind: api.OpStyle, A: 1, Style: s})
	x.down("who has none ahead of the change keeps none", 1, 53)
}

func TestNotScrolled(t *testing.T) {
	x := newScroller(t, 20, 30, 100)
	x.add(4, wide(150), high(1))
	x.ahead(1, high(500))
	x.down("not at all", 1, 0)
	x.scroll(1, 8, 0)
	x.ahead(1, high(500))
	x.both("across alone", 1, 8, 0)
	x.scroll(1, 8, 1)
	x.ahead(1, high(500))
	x.both("by 1", 1, 8, 501)
}

// TestWhoIsAnchor holds which box is the anchor: each is moved down by 1, 10, 100 and
// so on, which tells it by how far the scroller is moved with it.
func TestWhoIsAnchor(t *testing.T) {
	for _, c := range []struct {
		name   string
		build  func(x trial)
		scroll int
		moves  []int // boxes, that are moved by 1, 10, 100, 1000
		want   int
	}{
		{"the first that is wholly seen", func(x trial) { x.add(1, high(30)); x.add(1, high(30)); x.add(1, high(900)) }, 20, []int{2, 3, 4}, 1},
		{"which is seen in part", func(x trial) { x.add(1, high(30)); x.add(1, high(30)); x.add(1, high(900)) }, 29, []int{2, 3, 4}, 1},
		{"none that is just beyond", func(x trial) { x.add(1, high(30)); x.add(1, high(30)); x.add(1, high(900)) }, 30, []int{2, 3, 4}, 10},
		{"one in one that is seen in part", func(x trial) {
			x.add(1)
			x.add(2, high(30))
			x.add(2, high(30))
			x.add(1, high(900))
		}, 40, []int{2, 3, 4, 5}, 101}, // moved with the one that it is in
		{"itself, if none in it is seen", func(x trial) {
			x.add(1, high(100))
			x.add(2, high(30))
			x.add(1, high(900))
		}, 40, []int{2, 3, 4}, 1},
		{"itself, if it is wholly seen", func(x trial) {
			x.add(1, high(10))
			x.add(1)
			x.add(3, high(30))
			x.add(1, high(900))
		}, 10, []int{2, 3, 4, 5}, 10},
		{"none that is told not to be", func(x trial) { x.add(1, high(30), noAnchor); x.add(1, high(30)); x.add(1, high(900)) }, 10, []int{2, 3, 4}, 10},
		{"none in such a one", func(x trial) {
			x.add(1, noAnchor)
			x.add(2, high(40))
			x.add(1, high(900))
		}, 10, []int{2, 3, 4}, 100},
		{"none that is absolute, or in such a one", func(x trial) {
			x.add(1, at(api.PosAbsolute), wide(20))
			x.add(2, high(40))
			x.add(1, high(30))
			x.add(1, high(900))
		}, 10, []int{2, 3, 4, 5}, 100},
		{"none that sticks, or is in such a one", func(x trial) {
			x.add(1, at(api.PosSticky))
			x.add(2, high(40))
			x.add(1, high(900))
		}, 10, []int{3, 4}, 10},
		{"none that is fixed, or in such a one", func(x trial) {
			x.add(1, at(api.PosFixed), wide(20))
			x.add(2, high(40))
			x.add(1, high(30))
			x.add(1, high(900))
		}, 10, []int{3, 4, 5}, 10},
		{"a scroller, but none in it", func(x trial) {
			x.add(1, scrolls, high(45))
			x.add(2, high(10))
			x.add(2, high(30))
			x.add(1, high(900))
		}, 20, []int{2, 3, 4, 5}, 1},
		{"one that clips, or one in it", func(x trial) {
			x.add(1, func(s *api.Style) { s.Overflow = api.OverClip })
			x.add(2, high(10))
			x.add(2, high(30))
			x.add(1, high(900))
		}, 20, []int{2, 3, 4, 5}, 101},
		{"none that is not shown", func(x trial) {
			x.add(1, hidden, high(40))
			x.add(1, high(40))
			x.add(1, high(900))
		}, 20, []int{2, 3, 4}, 10},
		{"none that is empty", func(x trial) {
			x.add(1, high(20))
			x.add(1, high(0))
			x.add(1, high(900))
		}, 20, []int{2, 3, 4}, 100},
		{"in the tree's order", func(x trial) {
			x.add(1, high(30))
			x.ahead(1, high(30))
			x.add(1, high(900))
		}, 10, []int{2, 3, 4}, 10},
		{"none, if nothing is seen", func(x trial) { x.add(1, high(900), noAnchor) }, 10, []int{2}, 0},
	} {
		x := newScroller(t)
		c.build(x)
		x.scroll(1, 0, c.scroll)
		x.down(c.name, 1, c.scroll)
		// All at once, by what the engine itself doesn't see ahead of the change.
		had, by := x.e.anchors(), 1
		for _, id := range c.moves {
			s := x.e.Tree().Style(id)
			if s.Position == api.PosStatic {
				s.Position = api.PosRelative
			}
			s.Inset[api.Top] = px(by)
			x.e.Tree().Set(id, s)
			by *= 10
		}
		x.e.settle(had)
		x.down(c.name+", and moved", 1, c.scroll+c.want)
	}
}

// TestAnchorPort holds that an anchor is looked for in the port, which begins behind
// the scroller's border, and is less high by it.
func TestAnchorPort(t *testing.T) {
	x := newTrial(t)
	x.add(0, scrolls, high(30), border(api.Top, 40), border(api.Bottom, 7))
	x.add(1, high(10))
	x.add(1, high(31)) // from 10 to 41
	x.add(3, high(30)) // from 10 to 40: wholly seen in the port alone
	x.add(1, high(100))
	x.scroll(1, 0, 10)
	x.set(4, at(api.PosRelative), inset(api.Top, 5))
	x.down("wholly seen in the port", 1, 15)
}

// TestTwoScrollers holds that each keeps its own anchor, one in the other or not.
func TestTwoScrollers(t *testing.T) {
	x := newScroller(t, 20, 30, 100)
	x.add(3, scrolls, high(25)) // 5, in 3, from 0 to 25 of it
	x.add(5, high(10))
	x.add(5, high(90))
	x.add(0, scrolls, high(20))
	x.add(8, high(15))
	x.add(8, high(50))
	x.scroll(1, 0, 22)
	x.scroll(5, 0, 12)
	x.scroll(8, 0, 16)
	x.set(6, high(14))
	x.down("in the inner one", 5, 16)
	x.down("the outer one stays", 1, 22)
	x.set(2, high(26))
	x.down("in the outer one", 1, 28)
	x.down("the inner one stays", 5, 16)
	x.set(9, high(10))
	x.down("in another one", 8, 11)
	x.move(7, 1, 0)
	x.down("out of the inner one", 5, 0)
	x.down("into the outer one", 1, 118)
	x.down("another one stays", 8, 11)
}

// TestSettlesInOrder holds that scrollers settle in the tree's order, not by numbers:
// who was the anchor of one and is fixed now is at a place in it that hangs on how far
// the one that it is in is scrolled.
func TestSettlesInOrder(t *testing.T) {
	x := newTrial(t)
	inner := x.add(0, scrolls)
	x.add(inner, high(30))
	x.add(inner, high(20))
	x.add(inner, at(api.PosAbsolute), inset(api.Top, 300), high(10), wide(10))
	outer := x.add(0, scrolls, high(50))
	x.move(inner, outer, 0)
	x.add(outer, high(100))
	x.scroll(inner, 0, 5)
	x.scroll(outer, 0, 60)
	x.set(2, at(api.PosFixed))
	x.down("the outer one, first", outer, 30)
	x.down("and the inner one", inner, 40) // 2 was at 0, and is at 35: the inner one begins at -30
}

// TestAnchorElsewhere holds that who is in another scroller is no anchor any more.
func TestAnchorElsewhere(t *testing.T) {
	x := newScroller(t, 20, 30, 100)
	x.scroll(1, 0, 25)
	x.set(2, scrolls)
	x.move(3, 2, 0)
	x.down("it is in a scroller in it", 1, 25)
	x = newScroller(t, 20, 30, 100)
	x.add(3, high(28))
	x.scroll(1, 0, 21)
	x.set(5, at(api.PosRelative), inset(api.Top, 3))
	x.down("in what is seen", 1, 24)
	x.set(3, scrolls, high(60)) // 5 was the anchor; 3 is where it was
	x.down("what it is in scrolls now", 1, 24)
	x.set(2, high(27))
	x.down("that is the anchor now", 1, 31)
}

func TestSnap(t *testing.T) {
	// Boxes are at 0 to 20, 20 to 50, 50 to 150; a port of 50, of at most 100.
	for _, c := range []struct {
		name  string
		kind  api.SnapKind
		edges [3]api.SnapAlign
		to    [][2]int
	}{
		{"none", api.SnapNone, [3]api.SnapAlign{api.EdgeStart, api.EdgeStart, api.EdgeStart}, [][2]int{{7, 7}, {900, 100}, {-5, 0}}},
		{"starts", api.SnapMandatory, [3]api.SnapAlign{api.EdgeStart, api.EdgeStart, api.EdgeStart}, [][2]int{{3, 0}, {10, 0}, {11, 20}, {34, 20}, {35, 20}, {36, 50}, {900, 50}, {-900, 0}}},
		{"ends", api.SnapMandatory, [3]api.SnapAlign{api.EdgeEnd, api.EdgeEnd, api.EdgeEnd}, [][2]int{{0, 0}, {50, 0}, {51, 100}}},
		{"a center", api.SnapMandatory, [3]api.SnapAlign{api.EdgeNone, api.EdgeCenter, api.EdgeCenter}, [][2]int{{0, 10}, {42, 10}, {43, 75}}},
		{"those of one alone", api.SnapMandatory, [3]api.SnapAlign{api.EdgeNone, api.EdgeStart, api.EdgeNone}, [][2]int{{0, 20}, {100, 20}}},
		{"no stop", api.SnapMandatory, [3]api.SnapAlign{}, [][2]int{{7, 7}, {900, 100}}},
		{"near ones", api.SnapProximity, [3]api.SnapAlign{api.EdgeStart, api.EdgeNone, api.EdgeNone}, [][2]int{{7, 0}, {900, 0}}},
	} {
		x := newScroller(t, 20, 30, 100)
		x.set(1, snaps(c.kind))
		for i, align := range c.edges {
			x.set(2+i, edge(align))
		}
		for _, to := range c.to {
			x.scroll(1, 0, to[0])
			x.down(c.name, 1, to[1])
		}
	}
}

func TestSnapNear(t *testing.T) {
	x := newScroller(t, 20, 20000)
	x.set(1, snaps(api.SnapProximity))
	x.set(3, edge(api.EdgeStart))
	x.scroll(1, 0, 20+api.Near)
	x.down("as near as it may be", 1, 20)
	x.scroll(1, 0, 21+api.Near)
	x.down("too far", 1, 21+api.Near)
	x.set(1, snaps(api.SnapMandatory))
	x.down("however far", 1, 20)
}

// TestSnapAcross holds that a scroller snaps down alone.
func TestSnapAcross(t *testing.T) {
	x := newScroller(t, 20, 130)
	x.set(1, snaps(api.SnapMandatory))
	x.set(3, edge(api.EdgeStart), wide(170))
	x.scroll(1, 33, 44)
	x.both("down alone", 1, 33, 20)
	x.set(2, high(25))
	x.both("behind a change, too", 1, 33, 25)
}

// TestSnapPort holds that stops are told by the port, within the border.
func TestSnapPort(t *testing.T) {
	x := newTrial(t)
	x.add(0, scrolls, high(50), border(api.Top, 9), border(api.Bottom, 4), padding(api.Top, 3), snaps(api.SnapMandatory))
	x.add(1, high(60))
	x.add(1, high(70), edge(api.EdgeEnd)) // 63 to 133; the port is 53 high, and most 80
	x.add(1)
	x.scroll(1, 0, 5)
	x.down("its end", 1, 80)
	x.set(3, edge(api.EdgeCenter))
	x.down("its center", 1, 71)
	x.set(3, edge(api.EdgeStart))
	x.down("its start", 1, 63)
}

// TestSnapWho holds what a scroller snaps to.
func TestSnapWho(t *testing.T) {
	x := newScroller(t, 20, 30, 200)
	x.set(1, snaps(api.SnapMandatory))
	x.add(4, high(10))
	deep := x.add(5, at(api.PosRelative), inset(api.Top, 13), high(7), edge(api.EdgeStart))
	x.down("one in others, at once", 1, 63)
	x.set(5, scrolls)
	x.down("not what another one scrolls", 1, 63)
	x.scroll(1, 0, 9)
	x.down("not what another one scrolls", 1, 9)
	x.set(5, visible, at(api.PosFixed))
	x.scroll(1, 0, 10)
	x.down("nor what is in something fixed", 1, 10)
	x.set(5, at(api.PosAbsolute))
	x.down("but what is absolute", 1, 63)
	x.set(5, hidden)
	x.scroll(1, 0, 12)
	x.down("nor what is not shown", 1, 12)
	x.set(5, shown)
	x.down("shown again", 1, 63)
	x.remove(deep)
	x.scroll(1, 0, 12)
	x.down("nor what is gone", 1, 12)
	x.set(5, edge(api.EdgeStart))
	x.down("what is as high as it can be scrolled to", 1, 50)
	x.set(1, snaps(api.SnapNone))
	x.scroll(1, 0, 12)
	x.down("who doesn't snap", 1, 12)
	x.set(1, snaps(api.SnapMandatory))
	x.down("who does again, at once", 1, 50)
}

// TestSnapSticky holds that what sticks is where it is as the scroller is where it
// was to go.
func TestSnapSticky(t *testing.T) {
	x := newScroller(t, 20, 30, 200)
	x.set(1, snaps(api.SnapMandatory))
	x.add(4, high(10), at(api.PosSticky), inset(api.Top, 3), edge(api.EdgeStart))
	x.down("not stuck", 1, 50)
	x.scroll(1, 0, 40)
	x.down("not stuck", 1, 50)
	x.scroll(1, 0, 60) // stuck at 3 in the port: it begins at 63
	x.down("stuck", 1, 63)
	x.view(100, 60) // stuck at 66, as the scroller is at 63
	x.down("behind any change", 1, 66)
	x.answers("no change", api.Op{Kind: api.OpRemove, A: 9}, api.Answer{Err: api.ErrNone})
	x.do(api.Op{Kind: api.OpHit})
	x.down("behind none", 1, 66)
}

// TestSnapBehindAnchor holds that a scroller snaps from where its anchor keeps it.
func TestSnapBehindAnchor(t *testing.T) {
	x := newScroller(t, 20, 30, 100, 100)
	x.set(1, snaps(api.SnapMandatory))
	for id := 2; id < 6; id++ {
		x.set(id, edge(api.EdgeStart))
	}
	x.scroll(1, 0, 20)
	x.set(2, high(48))
	x.down("its anchor is a stop", 1, 48)
	x.set(3, edge(api.EdgeNone))
	x.down("its anchor is none any more", 1, 78)
	x.set(4, edge(api.EdgeNone))
	x.down("one is no stop", 1, 0)
	x.scroll(1, 0, 170)
	x.down("the last one", 1, 178)
	x.set(4, high(1))
	x.down("moved with it", 1, 79)
}

// TestExample is the one of the chapter.
func TestExample(t *testing.T) {
	x := newScroller(t, 8, 200)
	x.scroll(1, 0, 10)
	x.set(2, high(13))
	x.down("a box ahead of what is seen grows by 5", 1, 15)
}

// TestRoot holds that the root may be a scroller, too.
func TestRoot(t *testing.T) {
	x := newTrial(t)
	x.set(0, scrolls, func(s *api.Style) { s.Height = per(api.Whole) })
	x.add(0, high(20))
	x.add(0, high(100))
	x.scroll(0, 0, 30)
	x.down("scrolled", 0, 30)
	x.set(1, high(26))
	x.down("kept", 0, 36)
	x.view(100, 80)
	x.down("as far as a higher window lets it", 0, 36)
	x.view(100, 120)
	x.down("as far as an even higher window lets it", 0, 6)
	x.view(100, 1<<20)
	x.down("not at all", 0, 0)
}
