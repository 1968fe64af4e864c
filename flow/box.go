package flow

import (
	"valance/api"
	"valance/flex"
	"valance/length"
)

// The ways that sizes go.
const (
	across = iota
	down
	ways
)

// The ends of a way.
const (
	ahead = iota
	behind
)

// unknown is a size that nothing tells.
const unknown = -1

// mostSize is how far an item grows, where its style holds it to nothing.
const mostSize = 1 << 20

// size is how large something is, both ways.
type size [ways]int

// unset is what is set of a box of whose size nothing is.
func unset() size { return size{across: unknown, down: unknown} }

// ends are what there is at both ends of a way.
type ends [2]int

// all is what both ends take.
func (e ends) all() int { return e[ahead] + e[behind] }

// extent is what a style tells of how large a box is, one way.
type extent struct {
	long, least, most api.Len
}

// limit is n, as far as a box may be so large.
func (x extent) limit(n, base int) int {
	return length.Limit(n, x.least, x.most, base)
}

// fixed tells whether the style tells how large the box is.
func (x extent) fixed(base int) bool {
	return length.Fixed(x.long, base)
}

// asItem is an item of flex, in a room, whose base is that of its style, or else
// what is told.
func (x extent) asItem(s api.Style, base, room int) flex.Item {
	return flex.Item{
		Base:   length.Of(s.Basis, room, base),
		Low:    length.Limit(0, x.least, api.Len{}, room),
		High:   max(length.Of(x.most, room, mostSize), 0),
		Grow:   s.Grow,
		Shrink: s.Shrink,
	}
}

// box is what is read of one that is shown.
type box struct {
	style        api.Style
	extents      [ways]extent
	edges        [ways]ends
	flows, apart []int
	inBlock      bool // it flows in a block
}

// newBox is a box of a style.
func newBox(s api.Style) *box {
	return &box{
		style: s,
		extents: [ways]extent{
			across: {s.Width, s.MinWidth, s.MaxWidth},
			down:   {s.Height, s.MinHeight, s.MaxHeight},
		},
		edges: byWay(Edges(s)),
	}
}

// within is how large a box is within its edges, one way; unknown, where what is
// in it tells that.
func (b *box) within(way int, room, set size) int {
	x, edges := b.extents[way], b.edges[way].all()
	switch {
	case set[way] != unknown:
		return max(set[way]-edges, 0)
	case x.fixed(room[way]):
		return x.limit(length.Of(x.long, room[way], 0), room[way])
	case way == across:
		left := room[way] - b.margins(room)[way].all() - edges
		return x.limit(max(left, 0), room[way])
	}
	return unknown
}

// byContent is how wide a box is with its edges, that is as wide as its content.
func (b *box) byContent(room size) int {
	return b.extents[across].limit(b.style.Content[across], room[across]) + b.edges[across].all()
}

// margins are a box's own, in a room: none is a part of how high that is.
func (b *box) margins(room size) [ways]ends {
	return [ways]ends{
		across: byWay(length.Sides(b.style.Margin, room[across]))[across],
		down:   byWay(length.Sides(b.style.Margin, unknown))[down],
	}
}

// inset is what a box's inset at an end of a way is, if it tells any.
func (b *box) inset(way, end int, room size) (int, bool) {
	l := b.style.Inset[side(way, end)]
	return length.Of(l, room[way], 0), length.Fixed(l, room[way])
}

// open tells whether margins come together through an end of a box, with those of
// what is in it.
func (b *box) open(end int) bool {
	s := b.style
	free := b.inBlock && s.Display == api.ShowBlock && s.Overflow == api.OverVisible && b.edges[down][end] == 0
	if end == behind {
		return free && s.Height.Kind == api.Auto && s.MinHeight.Kind == api.Auto
	}
	return free
}

// side is which side is at an end of a way.
func side(way, end int) int {
	sides := [ways]ends{across: {api.Left, api.Right}, down: {api.Top, api.Bottom}}
	return sides[way][end]
}

// byWay are sides by the ends of the ways.
func byWay(l [4]int) [ways]ends {
	told := [ways]ends{}
	for way := range told {
		told[way] = ends{l[side(way, ahead)], l[side(way, behind)]}
	}
	return told
}
