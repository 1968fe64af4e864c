package flow

import (
	"valance/api"
	"valance/flex"
	"valance/justify"
	"valance/length"
	"valance/lines"
	"valance/margin"
)

// item is a box that flows in a flexible one.
type item struct {
	flex.Item
	laid    laid
	box     *box
	margins [ways]ends
}

// extra is what an item has beside what grows and shrinks, one way.
func (x item) extra(way int) int {
	return x.margins[way].all() + x.box.edges[way].all()
}

// outer tells how large an item is with its margins, one way.
func outer(way int) func(x item) int {
	return func(x item) int { return x.laid.size[way] + x.margins[way].all() }
}

// clamped tells how large an item is with all that is extra, one way, where it
// neither grows nor shrinks.
func clamped(way int) func(x item) int {
	return func(x item) int { return flex.Clamp(x.Item, x.Base) + x.extra(way) }
}

// told is what is told of each item.
func told(items []item, of func(x item) int) []int {
	l := make([]int, len(items))
	for i, x := range items {
		l[i] = of(x)
	}
	return l
}

// block lays what flows in a box one below the other.
func (l *layout) block(k key) content {
	b := l.boxes[k.id]
	c := content{kids: make([]laid, len(b.flows))}
	sizes, tops, bottoms := make([]int, len(b.flows)), make([]int, len(b.flows)), make([]int, len(b.flows))
	for i, id := range b.flows {
		kid, s := l.lay(id, k.in, unset()), l.boxes[id].style
		kid.at[across], _ = margin.Auto(k.in[across], kid.size[across], s.Margin[api.Left], s.Margin[api.Right], k.in[across])
		c.kids[i] = kid
		sizes[i] = kid.size[down]
		tops[i] = margin.Collapse(l.meeting(id, ahead))
		bottoms[i] = margin.Collapse(l.meeting(id, behind))
	}
	begins, end := margin.Stack(sizes, tops, bottoms)
	first, last := tops[0], bottoms[len(bottoms)-1]
	// What comes together through an open end is outside of the box.
	if b.open(ahead) {
		first = 0
	}
	if b.open(behind) {
		last = 0
	}
	for i := range c.kids {
		c.kids[i].at[down] = first + begins[i]
	}
	c.high = first + end + last
	return c
}

// meeting are the margins that come together at the top, or the bottom, of a box.
func (l *layout) meeting(id, end int) []int {
	b := l.boxes[id]
	met := []int{b.margins(unset())[down][end]}
	if !b.open(end) || len(b.flows) == 0 {
		return met
	}
	next := b.flows[0]
	if end == behind {
		next = b.flows[len(b.flows)-1]
	}
	return append(met, l.meeting(next, end)...)
}

// row lays what flows in a box side by side, in lines.
func (l *layout) row(k key) content {
	b := l.boxes[k.id]
	items := l.items(k)
	for i, x := range items {
		base := length.Of(x.box.style.Width, k.in[across], x.box.style.Content[across])
		items[i].Item = x.box.extents[across].asItem(x.box.style, base, k.in[across])
	}
	broken := lines.Break(told(items, clamped(across)), k.in[across], b.style.Gap, b.style.Wrap)
	high := unknown
	if len(broken) == 1 {
		high = k.in[down]
	}
	c := content{}
	for i, line := range broken {
		if i > 0 {
			c.high += b.style.Gap
		}
		row := items[line[0]:line[1]]
		deep := l.line(k, row, high)
		for _, x := range row {
			x.laid.at[down] += c.high
			c.kids = append(c.kids, x.laid)
		}
		c.high += deep
	}
	return c
}

// items are those of a flexible box, none of them laid.
func (l *layout) items(k key) []item {
	flows := l.boxes[k.id].flows
	items := make([]item, len(flows))
	for i, id := range flows {
		b := l.boxes[id]
		items[i] = item{laid: laid{key: key{id: id}}, box: b, margins: b.margins(k.in)}
	}
	return items
}

// line lays the items of a line, and answers how high the line is: as what is told,
// if that is known, or as they are.
func (l *layout) line(k key, items []item, high int) int {
	s := l.boxes[k.id].style
	for i, long := range flexed(items, across, k.in, s.Gap) {
		x := &items[i]
		x.laid = l.lay(x.laid.id, k.in, size{across: long + x.box.edges[across].all(), down: unknown})
	}
	if high == unknown {
		high = highest(items)
	}
	if s.Align == api.AlignStretch {
		l.stretch(items, k.in, high)
	}
	starts := justify.Starts(s.Justify, told(items, outer(across)), k.in[across], s.Gap)
	for i, start := range starts {
		x := &items[i]
		lies := justify.Across(s.Align, outer(down)(*x), high)
		x.laid.at = size{across: start + x.margins[across][ahead], down: lies + x.margins[down][ahead]}
	}
	return high
}

// flexed are the sizes that items grow and shrink to, one way.
func flexed(items []item, way int, room size, gap int) []int {
	l := make([]flex.Item, len(items))
	left := room[way] - gap*(len(items)-1)
	for i, x := range items {
		l[i] = x.Item
		left -= x.extra(way)
	}
	return flex.Sizes(l, left)
}

// highest is how high the highest item is with its margins.
func highest(items []item) int {
	high := 0
	for _, n := range told(items, outer(down)) {
		high = max(high, n)
	}
	return high
}

// stretch lays the items of a line again, that may be as high as it is.
func (l *layout) stretch(items []item, room size, high int) {
	for i := range items {
		x := &items[i]
		extent := x.box.extents[down]
		if extent.fixed(room[down]) {
			continue
		}
		inner := extent.limit(max(high-x.extra(down), 0), room[down])
		set := size{across: x.laid.size[across], down: inner + x.box.edges[down].all()}
		x.laid = l.lay(x.laid.id, room, set)
	}
}

// column lays what flows in a box one below the other, flexibly.
func (l *layout) column(k key) content {
	s := l.boxes[k.id].style
	items := l.items(k)
	for i := range items {
		x := &items[i]
		x.laid = l.lay(x.laid.id, k.in, l.columnSet(k, x.box))
		high := x.laid.size[down] - x.box.edges[down].all()
		x.Item = x.box.extents[down].asItem(x.box.style, high, k.in[down])
	}
	for i, high := range columnSizes(items, k.in, s.Gap) {
		x := &items[i]
		set := l.columnSet(k, x.box)
		set[down] = high + x.box.edges[down].all()
		x.laid = l.lay(x.laid.id, k.in, set)
	}
	long := told(items, outer(down))
	c := content{high: lines.Long(long, s.Gap)}
	room := k.in[down]
	if room == unknown {
		room = c.high
	}
	for i, start := range justify.Starts(s.Justify, long, room, s.Gap) {
		x := items[i]
		lies := justify.Across(s.Align, outer(across)(x), k.in[across])
		x.laid.at = size{across: lies + x.margins[across][ahead], down: start + x.margins[down][ahead]}
		c.kids = append(c.kids, x.laid)
	}
	return c
}

// columnSet is what is set of an item of a column, ahead of how high it is to be:
// how wide it is, if neither its style nor the column tells it.
func (l *layout) columnSet(k key, x *box) size {
	set := unset()
	if !x.extents[across].fixed(k.in[across]) && l.boxes[k.id].style.Align != api.AlignStretch {
		set[across] = x.byContent(k.in)
	}
	return set
}

// columnSizes are how high the items of a column are within their edges.
func columnSizes(items []item, room size, gap int) []int {
	if room[down] != unknown && len(items) <= lines.MostItems {
		return flexed(items, down, room, gap)
	}
	return told(items, func(x item) int { return flex.Clamp(x.Item, x.Base) })
}
