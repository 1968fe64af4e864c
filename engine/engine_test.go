package engine

import (
	"maps"
	"math"
	"slices"
	"strconv"
	"strings"
	"testing"

	"valance/api"
	"valance/flow"
	"valance/place"
	"valance/point"
	"valance/record"
	"valance/tree"
)

func px(n int) api.Len { return api.Len{Kind: api.Px, N: n} }

func per(n int) api.Len { return api.Len{Kind: api.Per, N: n} }

func r(x, y, w, h int) api.Rect { return api.Rect{X: x, Y: y, W: w, H: h} }

func p(x, y int) complex128 { return point.Of(x, y) }

// change is what a test changes of a style.
type change func(s *api.Style)

// with is a style that is changed by all of these, one behind another.
func with(changes ...change) api.Style {
	s := api.Style{}
	for _, change := range changes {
		change(&s)
	}
	return s
}

func high(n int) change { return func(s *api.Style) { s.Height = px(n) } }

func wide(n int) change { return func(s *api.Style) { s.Width = px(n) } }

func scrolls(s *api.Style) { s.Overflow = api.OverScroll }

func visible(s *api.Style) { s.Overflow = api.OverVisible }

func hidden(s *api.Style) { s.Display = api.ShowNone }

func shown(s *api.Style) { s.Display = api.ShowBlock }

func noAnchor(s *api.Style) { s.NoAnchor = true }

func anchored(s *api.Style) { s.NoAnchor = false }

func at(position api.Position) change { return func(s *api.Style) { s.Position = position } }

func snaps(kind api.SnapKind) change { return func(s *api.Style) { s.Snap = kind } }

func edge(align api.SnapAlign) change { return func(s *api.Style) { s.Edge = align } }

func inset(side, n int) change { return func(s *api.Style) { s.Inset[side] = px(n) } }

func border(side, n int) change { return func(s *api.Style) { s.Border[side] = n } }

func padding(side, n int) change { return func(s *api.Style) { s.Padding[side] = n } }

// trial is an engine that is tried.
type trial struct {
	t *testing.T
	e *Engine
}

func newTrial(t *testing.T) trial { return trial{t, New(100, 60)} }

// do does what must be right.
func (x trial) do(o api.Op) api.Answer {
	x.t.Helper()
	a := x.e.Do(o)
	if a.Err != api.OK {
		x.t.Fatalf("%v: %v", o, a)
	}
	return a
}

// add adds a box behind the other kids.
func (x trial) add(up int, changes ...change) int {
	x.t.Helper()
	id := x.do(api.Op{Kind: api.OpAdd, A: up, B: len(x.e.Tree().Kids(up))}).N
	x.set(id, changes...)
	return id
}

// ahead adds a box ahead of the other kids.
func (x trial) ahead(up int, changes ...change) int {
	x.t.Helper()
	id := x.do(api.Op{Kind: api.OpAdd, A: up}).N
	x.set(id, changes...)
	return id
}

// set changes a box's style.
func (x trial) set(id int, changes ...change) {
	x.t.Helper()
	s := x.e.Tree().Style(id)
	for _, change := range changes {
		change(&s)
	}
	x.do(api.Op{Kind: api.OpStyle, A: id, Style: s})
}

func (x trial) scroll(id, across, down int) {
	x.t.Helper()
	x.do(api.Op{Kind: api.OpScroll, A: id, B: across, C: down})
}

func (x trial) remove(id int) {
	x.t.Helper()
	x.do(api.Op{Kind: api.OpRemove, A: id})
}

func (x trial) move(id, up, at int) {
	x.t.Helper()
	x.do(api.Op{Kind: api.OpMove, A: id, B: up, C: at})
}

func (x trial) view(w, h int) {
	x.t.Helper()
	x.do(api.Op{Kind: api.OpView, A: w, B: h})
}

// down holds how far down a box is scrolled, and that it is not across.
func (x trial) down(name string, id, want int) {
	x.t.Helper()
	if got := x.e.Offset(id); got != p(0, want) {
		x.t.Errorf("%s: %d is scrolled by %v, want %d down", name, id, got, want)
	}
}

// both holds how far a box is scrolled.
func (x trial) both(name string, id, across, down int) {
	x.t.Helper()
	if got := x.e.Offset(id); got != p(across, down) {
		x.t.Errorf("%s: %d is scrolled by %v, want %d, %d", name, id, got, across, down)
	}
}

func (x trial) answers(name string, o api.Op, want api.Answer) {
	x.t.Helper()
	if got := x.e.Do(o); got != want {
		x.t.Errorf("%s: %v, want %v", name, got, want)
	}
}

// newScroller is an engine with a scroller that is 50 high, and in it boxes of these
// heights, from 2 on.
func newScroller(t *testing.T, heights ...int) trial {
	t.Helper()
	x := newTrial(t)
	x.add(0, scrolls, high(50))
	for _, n := range heights {
		x.add(1, high(n))
	}
	return x
}

// tell is a tree as text.
func tell(t *tree.Tree) string {
	l := []string{}
	for _, id := range t.Order() {
		row := strconv.Itoa(id) + " in " + strconv.Itoa(t.Up(id)) + ":"
		for _, n := range record.Put(t.Style(id)) {
			row += " " + strconv.Itoa(n)
		}
		l = append(l, row)
	}
	return strings.Join(l, "\n")
}

// known is all that is known of an engine.
type known struct {
	tree    string
	rects   map[int]api.Rect
	spots   map[int]place.Spot
	offsets map[int]complex128
}

func knownOf(e *Engine) known {
	k := known{tell(e.Tree()), e.Rects(), e.Spots(), map[int]complex128{}}
	for _, id := range e.Tree().Order() {
		k.offsets[id] = e.Offset(id)
	}
	return k
}

func (k known) same(other known) bool {
	return k.tree == other.tree && maps.Equal(k.rects, other.rects) && maps.Equal(k.spots, other.spots) && maps.Equal(k.offsets, other.offsets)
}

func TestNew(t *testing.T) {
	for _, c := range []struct{ w, h, wantW, wantH int }{
		{0, 0, 0, 0},
		{1, 2, 1, 2},
		{100, 60, 100, 60},
		{-1, 5, 0, 5},
		{5, -1, 5, 0},
		{1 << 20, 1<<20 - 1, 1 << 20, 1<<20 - 1},
		{1<<20 + 1, 5, 1 << 20, 5},
		{5, 1<<20 + 1, 5, 1 << 20},
		{math.MaxInt, math.MinInt, 1 << 20, 0},
		{math.MinInt, math.MaxInt, 0, 1 << 20},
	} {
		e := New(c.w, c.h)
		if got := e.Spots()[0].Clip; got != r(0, 0, c.wantW, c.wantH) {
			t.Errorf("the window of %d, %d is %v", c.w, c.h, got)
		}
		if got := e.Rects()[0]; got.W != c.wantW {
			t.Errorf("the root in a window of %d, %d is %v", c.w, c.h, got)
		}
		if e.Tree().Len() != 1 || e.Offset(0) != 0 || len(e.Rects()) != 1 {
			t.Errorf("%d boxes, scrolled by %v", e.Tree().Len(), e.Offset(0))
		}
	}
}

// TestTree holds that the tree is the engine's own: what is changed of it by others
// holds for the engine, too.
func TestTree(t *testing.T) {
	x := newTrial(t)
	own := x.e.Tree()
	id, err := own.Add(0, 0)
	if err != api.OK || own.Set(id, with(high(7), scrolls)) != api.OK {
		t.Fatal(err)
	}
	if x.e.Tree() != own {
		t.Error("another tree")
	}
	if got := x.e.Rects()[id]; got != r(0, 0, 100, 7) {
		t.Error("added to it by others:", got)
	}
	inner := x.add(id, high(20))
	x.scroll(id, 0, 4)
	x.down("a scroller by others", id, 4)
	if got := own.Order(); !slices.Equal(got, []int{0, id, inner}) {
		t.Error("added to it by the engine:", got)
	}
	own.Set(id, with(high(7)))
	x.down("no scroller any more, by others", id, 0)
	own.Remove(id)
	x.down("none any more, by others", id, 0)
	x.answers("none any more, by others", api.Op{Kind: api.OpRect, A: id}, api.Answer{Err: api.ErrNone})
}

// TestEngines holds that one engine knows nothing of another one.
func TestEngines(t *testing.T) {
	x, y := newScroller(t, 100), newScroller(t, 100)
	was := knownOf(y.e)
	x.scroll(1, 0, 30)
	x.view(7, 7)
	x.add(1)
	if !was.same(knownOf(y.e)) {
		t.Error("another one has changed")
	}
}

// TestAnswersAreOwn holds that who changes what was told changes nothing else.
func TestAnswersAreOwn(t *testing.T) {
	x := newScroller(t, 100, 20)
	x.scroll(1, 0, 30)
	was := knownOf(x.e)
	rects, spots := x.e.Rects(), x.e.Spots()
	inside := Inside(x.e.Tree(), rects, 1)
	clear(rects)
	clear(spots)
	inside[0] = 9
	if !was.same(knownOf(x.e)) {
		t.Error("what is kept is told")
	}
	if got := Inside(x.e.Tree(), x.e.Rects(), 1); !slices.Equal(got, []int{2, 3}) {
		t.Error("inside are", got)
	}
}

func TestRectsAndSpots(t *testing.T) {
	x := newTrial(t)
	x.set(0, padding(api.Top, 3))
	x.add(0, scrolls, high(50), border(api.Top, 2), padding(api.Left, 5))
	x.add(1, high(40), wide(200))
	x.add(2, high(90))
	x.add(1, hidden)
	x.add(1, at(api.PosFixed), high(9))
	x.scroll(1, 20, 10)
	x.both("both ways", 1, 20, 10)
	rects := flow.Lay(x.e.Tree(), 100, 60)
	if got := x.e.Rects(); !maps.Equal(got, rects) || len(got) != 5 {
		t.Errorf("%v, want %v", got, rects)
	}
	want := map[int]place.Spot{
		0: {Rect: r(0, 0, 100, 55), Clip: r(0, 0, 100, 60)},
		1: {Rect: r(0, 3, 100, 52), Clip: r(0, 0, 100, 60)},
		2: {Rect: r(-15, -5, 200, 40), Clip: r(0, 5, 100, 50)},
		3: {Rect: r(-15, -5, 200, 90), Clip: r(0, 5, 100, 50)},
		5: {Rect: r(0, 0, 0, 9), Clip: r(0, 0, 100, 60)},
	}
	if got := x.e.Spots(); !maps.Equal(got, want) {
		t.Errorf("%v, want %v", got, want)
	}
	if got := place.Spots(x.e.Tree(), rects, map[int]complex128{1: p(20, 10)}, 100, 60); !maps.Equal(got, want) {
		t.Errorf("by place %v, want %v", got, want)
	}
}

// TestHidden holds that nothing is where the root is hidden.
func TestHidden(t *testing.T) {
	x := newScroller(t, 100)
	x.scroll(1, 0, 30)
	x.set(0, hidden)
	if len(x.e.Rects()) != 0 || len(x.e.Spots()) != 0 {
		t.Error("there is", x.e.Rects(), x.e.Spots())
	}
	x.down("hidden", 1, 0)
	x.answers("hidden", api.Op{Kind: api.OpScroll, A: 1, C: 30}, api.Answer{Err: api.ErrArg})
	x.answers("hidden", api.Op{Kind: api.OpRect, A: 0}, api.Answer{Err: api.ErrNone})
	x.answers("hidden", api.Op{Kind: api.OpHit, A: 0}, api.Answer{N: -1})
	x.answers("hidden", api.Op{Kind: api.OpOffset, A: 1}, api.Answer{})
	x.add(1)
	x.set(0, shown)
	x.down("shown again", 1, 0)
}

func TestDoAdd(t *testing.T) {
	x := newTrial(t)
	for _, c := range []struct {
		name  string
		up, b int
		want  api.Answer
	}{
		{"the first one", 0, 0, api.Answer{N: 1}},
		{"ahead of it", 0, 0, api.Answer{N: 2}},
		{"behind both", 0, 2, api.Answer{N: 3}},
		{"in one", 2, 0, api.Answer{N: 4}},
		{"no box", 9, 0, api.Answer{N: -1, Err: api.ErrNone}},
		{"no box, nor such a place", -1, -1, api.Answer{N: -1, Err: api.ErrNone}},
		{"too far behind", 0, 4, api.Answer{N: -1, Err: api.ErrArg}},
		{"ahead of all", 0, -1, api.Answer{N: -1, Err: api.ErrArg}},
		{"nowhere", math.MaxInt, math.MinInt, api.Answer{N: -1, Err: api.ErrNone}},
	} {
		x.answers(c.name, api.Op{Kind: api.OpAdd, A: c.up, B: c.b}, c.want)
	}
	if got := x.e.Tree().Order(); !slices.Equal(got, []int{0, 2, 4, 1, 3}) {
		t.Error("there are", got)
	}
	x.answers("what is not asked for counts for nothing", api.Op{Kind: api.OpAdd, C: -9, Style: api.Style{Grow: -1, Width: px(5)}}, api.Answer{N: 5})
	if x.e.Tree().Style(5) != (api.Style{}) {
		t.Error("styled", x.e.Tree().Style(5))
	}
}

func TestDoRemove(t *testing.T) {
	x := newTrial(t)
	for _, up := range []int{0, 1, 2, 0} {
		x.add(up)
	}
	for _, c := range []struct {
		name string
		id   int
		want api.Answer
	}{
		{"no box", 5, api.Answer{Err: api.ErrNone}},
		{"no number", -1, api.Answer{Err: api.ErrNone}},
		{"the root", 0, api.Answer{Err: api.ErrArg}},
		{"with what is in it", 1, api.Answer{N: 3}},
		{"gone already", 1, api.Answer{Err: api.ErrNone}},
		{"gone with it", 3, api.Answer{Err: api.ErrNone}},
		{"alone", 4, api.Answer{N: 1}},
	} {
		x.answers(c.name, api.Op{Kind: api.OpRemove, A: c.id, B: -9, C: 7}, c.want)
	}
	if x.e.Tree().Len() != 1 {
		t.Error("there are", x.e.Tree().Order())
	}
}

func TestDoMove(t *testing.T) {
	x := newTrial(t)
	for _, up := range []int{0, 0, 1} {
		x.add(up)
	}
	for _, c := range []struct {
		name      string
		id, up, b int
		want      api.Errno
	}{
		{"no box", 7, 0, 0, api.ErrNone},
		{"into no box", 1, 7, 0, api.ErrNone},
		{"the root", 0, 1, 0, api.ErrArg},
		{"into itself", 1, 1, 0, api.ErrCycle},
		{"into what is in it", 1, 3, 9, api.ErrCycle},
		{"too far behind", 1, 0, 2, api.ErrArg},
		{"ahead of all", 1, 0, -1, api.ErrArg},
		{"behind", 1, 0, 1, api.OK},
		{"into another one", 1, 2, 0, api.OK},
	} {
		x.answers(c.name, api.Op{Kind: api.OpMove, A: c.id, B: c.up, C: c.b}, api.Answer{Err: c.want})
	}
	if got := x.e.Tree().Order(); !slices.Equal(got, []int{0, 2, 1, 3}) {
		t.Error("there are", got)
	}
}

func TestDoStyle(t *testing.T) {
	x := newTrial(t)
	id := x.add(0, high(5))
	wrong := with(high(9))
	wrong.Grow = -1
	x.answers("no box", api.Op{Kind: api.OpStyle, A: 7, Style: with(high(9))}, api.Answer{Err: api.ErrNone})
	x.answers("no box, no style", api.Op{Kind: api.OpStyle, A: -1, Style: wrong}, api.Answer{Err: api.ErrNone})
	x.answers("no style", api.Op{Kind: api.OpStyle, A: id, Style: wrong}, api.Answer{Err: api.ErrArg})
	if x.e.Tree().Style(id) != with(high(5)) {
		t.Error("changed to", x.e.Tree().Style(id))
	}
	x.answers("a style", api.Op{Kind: api.OpStyle, A: id, Style: with(high(9))}, api.Answer{})
	if x.e.Tree().Style(id) != with(high(9)) {
		t.Error("it is", x.e.Tree().Style(id))
	}
	x.answers("of the root", api.Op{Kind: api.OpStyle, Style: with(high(9))}, api.Answer{})
	x.answers("the root is as high", api.Op{Kind: api.OpRect}, api.Answer{Rect: r(0, 0, 100, 9)})
}

func TestDoView(t *testing.T) {
	x := newTrial(t)
	for _, c := range []struct {
		name string
		w, h int
		want api.Errno
	}{
		{"another one", 7, 8, api.OK},
		{"none", 0, 0, api.OK},
		{"the greatest one", 1 << 20, 1 << 20, api.OK},
		{"too wide", 1<<20 + 1, 5, api.ErrArg},
		{"too high", 5, 1<<20 + 1, api.ErrArg},
		{"below 0 across", -1, 5, api.ErrArg},
		{"below 0 down", 5, -1, api.ErrArg},
		{"beyond all", math.MaxInt, math.MinInt, api.ErrArg},
	} {
		want := x.e.Spots()[0].Clip
		x.answers(c.name, api.Op{Kind: api.OpView, A: c.w, B: c.h, C: -3}, api.Answer{Err: c.want})
		if c.want == api.OK {
			want = r(0, 0, c.w, c.h)
		}
		if got := x.e.Spots()[0].Clip; got != want {
			t.Errorf("%s: the window is %v, want %v", c.name, got, want)
		}
		if got := x.e.Rects()[0].W; got != want.W {
			t.Errorf("%s: the root is %d wide, want %d", c.name, got, want.W)
		}
	}
}

func TestDoScroll(t *testing.T) {
	x := newScroller(t, 20, 100)
	x.set(3, wide(130))
	x.add(0, scrolls, hidden)
	x.add(0, func(s *api.Style) { s.Overflow = api.OverClip })
	for _, c := range []struct {
		name             string
		id, across, down int
		want             api.Errno
		x, y             int
	}{
		{"as far as it is", 1, 0, 0, api.OK, 0, 0},
		{"both ways", 1, 7, 9, api.OK, 7, 9},
		{"as far as it can", 1, 30, 70, api.OK, 30, 70},
		{"too far", 1, 31, 71, api.OK, 30, 70},
		{"back across", 1, -1, 5, api.OK, 0, 5},
		{"back down", 1, 5, -1, api.OK, 5, 0},
		{"as far as numbers go", 1, math.MaxInt, math.MaxInt, api.OK, 30, 70},
		{"as far back", 1, math.MinInt, math.MinInt, api.OK, 0, 0},
		{"somewhere", 1, 3, 4, api.OK, 3, 4},
		{"no box", 9, 1, 1, api.ErrNone, 3, 4},
		{"no number", -1, 1, 1, api.ErrNone, 3, 4},
		{"no scroller", 2, 1, 1, api.ErrArg, 3, 4},
		{"the root is none", 0, 1, 1, api.ErrArg, 3, 4},
		{"not shown", 4, 1, 1, api.ErrArg, 3, 4},
		{"what clips is none", 5, 1, 1, api.ErrArg, 3, 4},
	} {
		x.answers(c.name, api.Op{Kind: api.OpScroll, A: c.id, B: c.across, C: c.down}, api.Answer{Err: c.want})
		x.both(c.name, 1, c.x, c.y)
	}
	for _, id := range []int{-2, -1, 0, 2, 3, 4, 5, 6, math.MaxInt, math.MinInt} {
		x.down("no scroller", id, 0)
	}
}

func TestDoAsks(t *testing.T) {
	x := newScroller(t, 20, 100)
	x.add(0, hidden)
	x.scroll(1, 0, 30)
	was := knownOf(x.e)
	ask := func(kind api.OpKind, a, b int) api.Op {
		return api.Op{Kind: kind, A: a, B: b, C: 5, Style: with(high(3))}
	}
	for _, c := range []struct {
		name string
		o    api.Op
		want api.Answer
	}{
		{"the last box", ask(api.OpHit, 5, 5), api.Answer{N: 3}},
		{"beside all", ask(api.OpHit, 5, 55), api.Answer{N: -1}},
		{"ahead of all", ask(api.OpHit, -1, 5), api.Answer{N: -1}},
		{"nowhere", ask(api.OpHit, math.MaxInt, math.MinInt), api.Answer{N: -1}},
		{"where the first one would be", ask(api.OpRect, 2, 0), api.Answer{Rect: r(0, -30, 100, 20)}},
		{"where the second one is", ask(api.OpRect, 3, 0), api.Answer{Rect: r(0, -10, 100, 100)}},
		{"where the scroller is", ask(api.OpRect, 1, 0), api.Answer{Rect: r(0, 0, 100, 50)}},
		{"where none is", ask(api.OpRect, 9, 0), api.Answer{Err: api.ErrNone}},
		{"where none can be", ask(api.OpRect, -1, 0), api.Answer{Err: api.ErrNone}},
		{"where one is not shown", ask(api.OpRect, 4, 0), api.Answer{Err: api.ErrNone}},
		{"how far the scroller is", ask(api.OpOffset, 1, 0), api.Answer{Rect: r(0, 30, 0, 70)}},
		{"how far no scroller is", ask(api.OpOffset, 3, 0), api.Answer{}},
		{"how far one is that is not shown", ask(api.OpOffset, 4, 0), api.Answer{}},
		{"how far none is", ask(api.OpOffset, 9, 0), api.Answer{Err: api.ErrNone}},
		{"how far none can be", ask(api.OpOffset, -1, 0), api.Answer{Err: api.ErrNone}},
		{"no kind", ask(9, 1, 0), api.Answer{Err: api.ErrArg}},
		{"no kind below 0", ask(-1, 1, 0), api.Answer{Err: api.ErrArg}},
		{"the greatest kind", ask(math.MaxInt, 1, 0), api.Answer{Err: api.ErrArg}},
		{"the least kind", ask(math.MinInt, 1, 0), api.Answer{Err: api.ErrArg}},
	} {
		x.answers(c.name, c.o, c.want)
	}
	if !was.same(knownOf(x.e)) {
		t.Error("who asks changes something")
	}
}

// TestDoOffsetBoth holds what is told of a scroller in which boxes are that it can't
// be scrolled back to.
func TestDoOffsetBoth(t *testing.T) {
	x := newTrial(t)
	x.add(0, scrolls, high(50), border(api.Left, 3), border(api.Top, 5), padding(api.Left, 2))
	x.add(1, high(80), wide(120))
	x.scroll(1, 4, 6)
	x.answers("both ways", api.Op{Kind: api.OpOffset, A: 1}, api.Answer{Rect: r(4, 6, 25, 30)})
	x.answers("where the box is", api.Op{Kind: api.OpRect, A: 2}, api.Answer{Rect: r(1, -1, 120, 80)})
}

// TestErrors holds that nothing changes with an error.
func TestErrors(t *testing.T) {
	x := newScroller(t, 20, 30, 100)
	x.scroll(1, 0, 25)
	wrong := api.Style{Z: 1<<20 + 1}
	was := knownOf(x.e)
	for _, o := range []api.Op{
		{Kind: api.OpAdd, A: 9}, {Kind: api.OpAdd, A: 1, B: 4}, {Kind: api.OpAdd, B: -1},
		{Kind: api.OpRemove}, {Kind: api.OpRemove, A: 9},
		{Kind: api.OpMove, A: 1, B: 3}, {Kind: api.OpMove, B: 3}, {Kind: api.OpMove, A: 2, B: 1, C: 3}, {Kind: api.OpMove, A: 9},
		{Kind: api.OpStyle, A: 2, Style: wrong}, {Kind: api.OpStyle, A: 9},
		{Kind: api.OpScroll, A: 2, C: 3}, {Kind: api.OpScroll, A: 9, C: 3}, {Kind: api.OpScroll, C: 3},
		{Kind: api.OpView, A: -1, B: 5}, {Kind: api.OpView, A: 5, B: 1<<20 + 1},
		{Kind: api.OpRect, A: 9}, {Kind: api.OpOffset, A: 9}, {Kind: 9}, {Kind: -1},
	} {
		a := x.e.Do(o)
		number := 0
		if o.Kind == api.OpAdd {
			number = -1
		}
		if a.Err == api.OK || a != (api.Answer{Err: a.Err, N: number}) {
			t.Errorf("%v answers %v", o, a)
		}
		if !was.same(knownOf(x.e)) {
			t.Fatalf("%v changes something", o)
		}
	}
}

func TestInside(t *testing.T) {
	x := newTrial(t)
	x.add(0, scrolls)                    // 1
	x.add(1)                             // 2
	x.add(2, at(api.PosAbsolute))        // 3
	x.add(1, scrolls)                    // 4
	x.add(4)                             // 5
	x.add(5, at(api.PosFixed))           // 6
	x.add(6, at(api.PosRelative))        // 7
	x.add(4, at(api.PosSticky), visible) // 8
	x.add(6, scrolls)                    // 9
	x.add(9)                             // 10
	x.add(1, hidden)                     // 11
	x.add(11)                            // 12
	x.add(1, func(s *api.Style) { s.Overflow = api.OverClip })
	x.add(13, noAnchor, edge(api.EdgeEnd)) // 14
	x.add(0)                               // 15
	inside := func(name string, id int, want ...int) {
		t.Helper()
		if got := Inside(x.e.Tree(), x.e.Rects(), id); !slices.Equal(got, want) {
			t.Errorf("%s: inside %d are %v, want %v", name, id, got, want)
		}
	}
	inside("a scroller", 1, 2, 3, 4, 13, 14)
	inside("a scroller in one, without what is fixed", 4, 5, 8)
	inside("a scroller in what is fixed", 9, 10)
	inside("no scroller", 0)
	inside("no scroller in one", 2)
	inside("what clips", 13)
	inside("no box", 20)
	inside("no number", -1)
	inside("numbers that can't be", math.MinInt)
	x.move(13, 1, 0)
	inside("in the tree's order", 1, 13, 14, 2, 3, 4)
	x.set(0, scrolls)
	inside("the root, that scrolls", 0, 1, 15)
	x.set(1, visible)
	inside("one that doesn't scroll any more", 1)
	inside("what is in that, too", 0, 1, 13, 14, 2, 3, 4, 15)
	x.set(2, at(api.PosFixed))
	inside("nothing in what is fixed", 0, 1, 13, 14, 4, 15)
	x.set(4, at(api.PosFixed))
	inside("a fixed scroller is not", 0, 1, 13, 14, 15)
	inside("but scrolls what is in it", 4, 5, 8)
}

// TestInsideByMap holds that m alone tells which boxes there are.
func TestInsideByMap(t *testing.T) {
	x := tree.New()
	for _, up := range []int{0, 0, 1, 1, 3} {
		x.Add(up, len(x.Kids(up)))
	}
	x.Set(1, with(scrolls))
	for _, c := range []struct {
		name string
		has  []int
		want []int
	}{
		{"all", []int{0, 1, 2, 3, 4, 5}, []int{3, 5, 4}},
		{"none", nil, nil},
		{"not one that is in one", []int{0, 1, 2, 3, 4}, []int{3, 4}},
		{"not one in which another one is", []int{0, 1, 2, 4, 5}, []int{5, 4}},
		{"not the scroller", []int{0, 2, 3, 4, 5}, []int{3, 5, 4}},
		{"more than there are", []int{-1, 0, 1, 3, 7, 8}, []int{3}},
	} {
		m := map[int]api.Rect{}
		for _, id := range c.has {
			m[id] = r(id, id, id, id)
		}
		was, text := maps.Clone(m), tell(x)
		if got := Inside(x, m, 1); !slices.Equal(got, c.want) {
			t.Errorf("%s: %v, want %v", c.name, got, c.want)
		}
		if !maps.Equal(m, was) || tell(x) != text {
			t.Errorf("%s: an argument has changed", c.name)
		}
	}
	for _, of := range []*tree.Tree{nil, {}, tree.New(), x} {
		for _, m := range []map[int]api.Rect{nil, {}, {0: {}}} {
			for _, id := range []int{-1, 0, 1, math.MaxInt, math.MinInt} {
				if got := Inside(of, m, id); len(got) != 0 {
					t.Errorf("inside %d of %v are %v", id, m, got)
				}
			}
		}
	}
}
