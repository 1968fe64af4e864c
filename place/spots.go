package place

import (
	"valance/api"
	"valance/flow"
	"valance/point"
	"valance/rect"
	"valance/stick"
	"valance/tree"
)

// Spot is where a box is, and in what it is seen.
type Spot struct {
	Rect api.Rect
	Clip api.Rect
}

// Spots are where all boxes are.
func Spots(t *tree.Tree, m map[int]api.Rect, offsets map[int]complex128, w, h int) map[int]Spot {
	v := view{tree: t, rects: m, offsets: offsets, window: rect.Of(0, 0, w, h), spots: map[int]Spot{}}
	if counts(t, m, root) {
		v.spots[root] = v.unmoved(root)
	}
	// Each box comes behind the one that it is in, whose spot tells its own.
	for _, id := range t.Order() {
		if _, shown := v.spots[id]; shown {
			v.enter(id)
		}
	}
	return v.spots
}

// view is what spots are told by, and those that are told.
type view struct {
	tree    *tree.Tree
	rects   map[int]api.Rect
	offsets map[int]complex128
	window  api.Rect
	spots   map[int]Spot
}

// inner is what a box does to its kids.
type inner struct {
	begin complex128 // where they are from
	back  complex128 // how far they are moved, as the box is scrolled
	clip  api.Rect   // in what they are seen
	hold  api.Rect   // within what they stick
}

// enter tells the spots of a box's kids. What is in a box is gone for once, not by
// each of its kids: how far it is scrolled hangs on all that is in it.
func (v view) enter(id int) {
	in := v.innerOf(id)
	for _, kid := range shownKids(v.tree, v.rects, id) {
		v.spots[kid] = v.spotOf(kid, in)
	}
}

// innerOf is what a box does to its kids.
func (v view) innerOf(id int) inner {
	s, up := v.tree.Style(id), v.spots[id]
	back := -v.scrolled(id)
	clip := up.Clip
	if s.Overflow != api.OverVisible {
		clip = rect.Meet(clip, Port(up.Rect, s))
	}
	return inner{
		begin: begin(up.Rect),
		back:  back,
		clip:  clip,
		hold:  rect.Move(rect.Inset(up.Rect, flow.Edges(s)), back),
	}
}

// scrolled is how far a box is scrolled.
func (v view) scrolled(id int) complex128 {
	return point.Within(v.offsets[id], 0, Most(v.tree, v.rects, id))
}

// spotOf is the spot of a kid.
func (v view) spotOf(id int, in inner) Spot {
	s := v.tree.Style(id)
	if s.Position == api.PosFixed {
		return v.unmoved(id)
	}
	at := rect.Move(rect.Move(v.rects[id], in.begin), in.back)
	if s.Position == api.PosSticky {
		port := v.portOf(id)
		at = rect.Move(at, stick.Both(at, in.hold, port, stick.Sides(s.Inset, port.W, port.H)))
	}
	return Spot{Rect: at, Clip: in.clip}
}

// unmoved is the spot of a box that nothing but the window is around.
func (v view) unmoved(id int) Spot {
	return Spot{Rect: v.rects[id], Clip: v.window}
}

// portOf is what a box sticks to.
func (v view) portOf(id int) api.Rect {
	scroller := Scroller(v.tree, id)
	if scroller == none {
		return v.window
	}
	return Port(v.spots[scroller].Rect, v.tree.Style(scroller))
}
