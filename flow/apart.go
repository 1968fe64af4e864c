package flow

import "valance/api"

// port is what a box is placed in, that doesn't flow: where that begins, how large
// it is, and how far behind its beginning what flows in it would begin.
type port struct {
	at, room, padding size
}

// portOf is what a box in up is placed in.
func (l *layout) portOf(b *box, up laid) port {
	if b.style.Position == api.PosFixed {
		return port{room: l.window}
	}
	s := l.boxes[up.id].style
	padding, border := byWay(s.Padding), byWay(s.Border)
	p := port{}
	for way := range ways {
		p.at[way] = border[way][ahead]
		p.room[way] = up.size[way] - border[way].all()
		p.padding[way] = padding[way][ahead]
	}
	return p
}

// layApart lays a box that doesn't flow, in the one that it is in, or in the window.
func (l *layout) layApart(id int, up laid) laid {
	b := l.boxes[id]
	p := l.portOf(b, up)
	set := size{across: b.spanned(across, p.room), down: b.spanned(down, p.room)}
	if set[across] == unknown && !b.extents[across].fixed(p.room[across]) {
		set[across] = b.byContent(p.room)
	}
	x := l.lay(id, p.room, set)
	for way := range ways {
		x.at[way] = p.at[way] + b.begins(way, p, x.size[way])
	}
	return x
}

// spanned is how large a box is, one way, that goes from one of its insets to the
// other one; unknown, if it does not.
func (b *box) spanned(way int, room size) int {
	first, from := b.inset(way, ahead, room)
	last, to := b.inset(way, behind, room)
	if b.extents[way].fixed(room[way]) || !from || !to {
		return unknown
	}
	return max(room[way]-first-last-b.margins(room)[way].all(), 0)
}

// begins is where a box begins in its port, one way.
func (b *box) begins(way int, p port, long int) int {
	margins := b.margins(p.room)[way]
	if first, fixed := b.inset(way, ahead, p.room); fixed {
		return first + margins[ahead]
	}
	if last, fixed := b.inset(way, behind, p.room); fixed {
		return p.room[way] - last - margins[behind] - long
	}
	return p.padding[way] + margins[ahead]
}
