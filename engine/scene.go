package engine

import (
	"maps"
	"slices"

	"valance/anchor"
	"valance/api"
	"valance/fix"
	"valance/place"
	"valance/point"
	"valance/snap"
	"valance/span"
	"valance/tree"
)

const none = -1 // the place of no node

// Inside are the boxes that one scrolls.
func Inside(t *tree.Tree, m map[int]api.Rect, id int) []int {
	inside := []int{}
	var enter func(up int)
	enter = func(up int) {
		for _, kid := range t.Kids(up) {
			// What doesn't move as id is scrolled has nothing in it that does.
			if t.Style(kid).Position == api.PosFixed || place.Scroller(t, kid) != id {
				continue
			}
			if _, shown := m[kid]; shown {
				inside = append(inside, kid)
			}
			enter(kid)
		}
	}
	enter(id)
	return inside
}

// held is the anchor of a scroller, as it was ahead of a change.
type held struct {
	id     int
	begins int // its place in the scroller
	offset int // how far down the scroller was scrolled
}

// anchors are those that there are, by their scrollers.
func (e *Engine) anchors() map[int]held {
	s, had := newScene(e), map[int]held{}
	for _, id := range e.scrollers() {
		if one, is := s.anchorOf(id); is {
			had[id] = one
		}
	}
	return had
}

// settle lets all scrollers come to rest, behind a change.
func (e *Engine) settle(had map[int]held) {
	maps.DeleteFunc(e.offsets, func(id int, _ complex128) bool { return !e.isScroller(id) })
	s := newScene(e)
	for _, id := range e.scrollers() {
		s.keepWithin(id, e.offsets[id])
		if one, is := had[id]; is {
			s.keepAnchor(id, one)
		}
		s.snap(id)
	}
}

// scrollers are all of them, in the tree's order.
func (e *Engine) scrollers() []int {
	return slices.DeleteFunc(e.tree.Order(), func(id int) bool { return !e.isScroller(id) })
}

// scene is where boxes are while nothing but offsets changes: it is gone for when
// it is asked, and once, as long as it holds.
type scene struct {
	*Engine
	rects map[int]api.Rect
	spots map[int]place.Spot
}

// newScene is one of which nothing is asked yet.
func newScene(e *Engine) *scene { return &scene{Engine: e} }

// laid is where boxes are, each in the one that it is in.
func (s *scene) laid() map[int]api.Rect {
	if s.rects == nil {
		s.rects = s.Rects()
	}
	return s.rects
}

// seen is where boxes are in the window.
func (s *scene) seen() map[int]place.Spot {
	if s.spots == nil {
		s.spots = place.Spots(s.tree, s.laid(), s.offsets, s.w, s.h)
	}
	return s.spots
}

// put lets a scroller be scrolled so far.
func (s *scene) put(id int, by complex128) {
	if by == s.offsets[id] {
		return
	}
	s.spots = nil
	if by == 0 {
		delete(s.offsets, id)
		return
	}
	s.offsets[id] = by
}

// putDown lets a scroller be scrolled so far down, and across as it is.
func (s *scene) putDown(id, by int) {
	s.put(id, point.Of(point.X(s.offsets[id]), by))
}

// scrolledDown is how far down a scroller is scrolled.
func (s *scene) scrolledDown(id int) int { return point.Y(s.offsets[id]) }

// most is how far a scroller can be scrolled.
func (s *scene) most(id int) complex128 { return place.Most(s.tree, s.laid(), id) }

// port is what is within a scroller's border.
func (s *scene) port(id int) api.Rect { return place.Port(s.seen()[id].Rect, s.tree.Style(id)) }

// inside are the boxes that a scroller scrolls.
func (s *scene) inside(id int) []int { return Inside(s.tree, s.laid(), id) }

// placesIn tells the places of boxes in a scroller.
func (s *scene) placesIn(id int) func(box int) api.Span {
	begins, scrolled := s.port(id).Y, s.scrolledDown(id)
	return func(box int) api.Span {
		r := s.seen()[box].Rect
		return span.Of(fix.Add(fix.Sub(r.Y, begins), scrolled), r.H)
	}
}

// scrollTo scrolls to where it can, and may rest.
func (s *scene) scrollTo(id int, to complex128) {
	s.keepWithin(id, to)
	s.snap(id)
}

// keepWithin scrolls to where it can.
func (s *scene) keepWithin(id int, to complex128) {
	s.put(id, point.Within(to, 0, s.most(id)))
}

// keepAnchor lets the anchor be seen where it was, if it is still there.
func (s *scene) keepAnchor(id int, had held) {
	if _, shown := s.laid()[had.id]; !shown || place.Scroller(s.tree, had.id) != id {
		return
	}
	begins := s.placesIn(id)(had.id).Lo
	s.putDown(id, anchor.Keep(had.offset, had.begins, begins, point.Y(s.most(id))))
}

// snap lets a scroller rest where its style wants it to.
func (s *scene) snap(id int) {
	kind := s.tree.Style(id).Snap
	if kind == api.SnapNone {
		return
	}
	rest := snap.Rest(kind, s.areas(id), s.port(id).H, point.Y(s.most(id)), s.scrolledDown(id))
	s.putDown(id, rest)
}

// areas are what a scroller can snap to.
func (s *scene) areas(id int) []snap.Area {
	areas, placeOf := []snap.Area{}, s.placesIn(id)
	for _, in := range s.inside(id) {
		if edge := s.tree.Style(in).Edge; edge != api.EdgeNone {
			areas = append(areas, snap.Area{At: placeOf(in), Edge: edge})
		}
	}
	return areas
}

// anchorOf is the anchor of a scroller, if it has one.
func (s *scene) anchorOf(id int) (held, bool) {
	offset := s.scrolledDown(id)
	if s.tree.Style(id).NoAnchor || offset <= 0 {
		return held{}, false
	}
	inside := s.inside(id)
	nodes := s.nodes(id, inside)
	at := anchor.Pick(nodes, span.Of(offset, s.port(id).H))
	if at == none {
		return held{}, false
	}
	return held{id: inside[at], begins: nodes[at].At.Lo, offset: offset}, true
}

// nodes are what may be the anchor of a scroller.
func (s *scene) nodes(id int, inside []int) []anchor.Node {
	nodes, places, placeOf := []anchor.Node{}, map[int]int{}, s.placesIn(id)
	for at, in := range inside {
		up, is := places[s.tree.Up(in)]
		if !is {
			up = none
		}
		places[in] = at
		nodes = append(nodes, anchor.Node{Up: up, At: placeOf(in), Skip: skips(s.tree.Style(in))})
	}
	return nodes
}

// skips tells whether nothing is kept by a box of a style.
func skips(s api.Style) bool {
	return s.NoAnchor || s.Position == api.PosAbsolute || s.Position == api.PosSticky
}
