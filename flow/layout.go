package flow

import (
	"valance/api"
	"valance/fix"
	"valance/tree"
)

// layout is all that is kept while boxes are laid.
type layout struct {
	window size
	boxes  map[int]*box
	kinds  map[api.Display]kind
	kept   map[key]content
	rects  map[int]api.Rect
}

// kind is how what flows in a box is laid.
type kind func(l *layout, k key) content

// key tells all that what is in a box hangs on: which one it is, and how large it
// is within its edges, if that is known.
type key struct {
	id int
	in size
}

// content is what flows in a box: each is at where it begins from where the box's
// edges end; and how high it comes to be.
type content struct {
	kids []laid
	high int
}

// laid is a box, how large it is with its edges, and where it begins.
type laid struct {
	key
	size size
	at   size
}

// newLayout is one of no box.
func newLayout(window size) *layout {
	return &layout{
		window: window,
		boxes:  map[int]*box{},
		kinds:  kinds(),
		kept:   map[key]content{},
		rects:  map[int]api.Rect{},
	}
}

// kinds are those that there are.
func kinds() map[api.Display]kind {
	return map[api.Display]kind{
		api.ShowBlock:  (*layout).block,
		api.ShowRow:    (*layout).row,
		api.ShowColumn: (*layout).column,
	}
}

// read reads a box that is shown, and what is shown in it: once, as a box is asked
// about often.
func (l *layout) read(t *tree.Tree, id int, inBlock bool) {
	b := newBox(t.Style(id))
	b.inBlock = inBlock
	b.flows, b.apart = shownKids(t, id)
	l.boxes[id] = b
	for _, kid := range b.flows {
		l.read(t, kid, b.style.Display == api.ShowBlock)
	}
	for _, kid := range b.apart {
		l.read(t, kid, false)
	}
}

// lay lays a box in a room, with what is set of its size. What is in it is laid
// only where it tells how high the box is: what a box that is laid again has in it
// is not laid in vain.
func (l *layout) lay(id int, room, set size) laid {
	b := l.boxes[id]
	x := laid{key: key{id: id}}
	for way := range ways {
		x.in[way] = b.within(way, room, set)
	}
	x.size = x.in
	if x.in[down] == unknown {
		x.size[down] = b.extents[down].limit(l.inside(x.key).high, room[down])
	}
	for way := range ways {
		x.size[way] += b.edges[way].all()
	}
	return x
}

// inside is what flows in a box.
func (l *layout) inside(k key) content {
	b := l.boxes[k.id]
	if len(b.flows) == 0 {
		return content{high: b.style.Content[down]}
	}
	c, ok := l.kept[k]
	if !ok {
		c = l.kinds[b.style.Display](l, k)
		for i := range c.kids {
			l.move(&c.kids[i], k.in)
		}
		l.kept[k] = c
	}
	return c
}

// move moves a box from where it flows.
func (l *layout) move(x *laid, room size) {
	b := l.boxes[x.id]
	if b.style.Position != api.PosRelative {
		return
	}
	for way := range ways {
		if by, fixed := b.inset(way, ahead, room); fixed {
			x.at[way] += by
		} else if by, fixed := b.inset(way, behind, room); fixed {
			x.at[way] -= by
		}
	}
}

// tell tells where a box is, and all in it. By now how large it is holds.
func (l *layout) tell(x laid) {
	b := l.boxes[x.id]
	l.rects[x.id] = api.Rect{
		X: fix.Cut(x.at[across]),
		Y: fix.Cut(x.at[down]),
		W: fix.Cut(x.size[across]),
		H: fix.Cut(x.size[down]),
	}
	for _, kid := range l.inside(x.key).kids {
		for way := range ways {
			kid.at[way] += b.edges[way][ahead]
		}
		l.tell(kid)
	}
	for _, id := range b.apart {
		l.tell(l.layApart(id, x))
	}
}
