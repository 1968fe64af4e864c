package tree

import (
	"math"
	"math/rand"
	"slices"
	"testing"

	"valance/api"
)

// row is a box as it stands in the order: that is all that a model keeps.
type row struct {
	id, depth int
	style     api.Style
}

// model is a tree as the document's words tell it, by the order of its boxes and
// how deep each is: what is in a box is all deeper ones that follow it at once.
type model struct{ rows []row }

func newModel() *model { return &model{rows: []row{{}}} }

func (m *model) place(id int) int {
	return slices.IndexFunc(m.rows, func(r row) bool { return r.id == id })
}

// end is the place behind a box and all that is in it.
func (m *model) end(place int) int {
	end := place + 1
	for end < len(m.rows) && m.rows[end].depth > m.rows[place].depth {
		end++
	}
	return end
}

func (m *model) depth(id int) int {
	if m.place(id) < 0 {
		return -1
	}
	return m.rows[m.place(id)].depth
}

func (m *model) kids(id int) []int {
	l := []int{}
	place := m.place(id)
	if place < 0 {
		return l
	}
	for _, r := range m.rows[place:m.end(place)] {
		if r.depth == m.rows[place].depth+1 {
			l = append(l, r.id)
		}
	}
	return l
}

func (m *model) up(id int) int {
	for place := m.place(id) - 1; place >= 0; place-- {
		if r := m.rows[place]; r.depth == m.depth(id)-1 {
			return r.id
		}
	}
	return -1
}

func (m *model) style(id int) api.Style {
	if m.place(id) < 0 {
		return api.Style{}
	}
	return m.rows[m.place(id)].style
}

func (m *model) order() []int {
	l := []int{}
	for _, r := range m.rows {
		l = append(l, r.id)
	}
	return l
}

// put lets rows be the at-th kid of a box, as deep as they are to be there.
func (m *model) put(l []row, up, at int) {
	by := m.depth(up) + 1 - l[0].depth
	for i := range l {
		l[i].depth += by
	}
	place := m.end(m.place(up))
	if kids := m.kids(up); at < len(kids) {
		place = m.place(kids[at])
	}
	m.rows = slices.Insert(m.rows, place, l...)
}

// take lets a box, and what is in it, go.
func (m *model) take(id int) []row {
	place := m.place(id)
	end := m.end(place)
	l := slices.Clone(m.rows[place:end])
	m.rows = slices.Delete(m.rows, place, end)
	return l
}

func (m *model) add(up, at int) (int, api.Errno) {
	switch {
	case m.place(up) < 0:
		return -1, api.ErrNone
	case at < 0 || at > len(m.kids(up)):
		return -1, api.ErrArg
	case len(m.rows) == 4096:
		return -1, api.ErrFull
	case m.depth(up) == 63:
		return -1, api.ErrDeep
	}
	numbers := m.order()
	slices.Sort(numbers)
	id := 0
	for id < len(numbers) && numbers[id] == id {
		id++
	}
	m.put([]row{{id: id}}, up, at)
	return id, api.OK
}

func (m *model) remove(id int) (int, api.Errno) {
	switch {
	case m.place(id) < 0:
		return 0, api.ErrNone
	case id == 0:
		return 0, api.ErrArg
	}
	return len(m.take(id)), api.OK
}

func (m *model) move(id, up, at int) api.Errno {
	if m.place(id) < 0 || m.place(up) < 0 {
		return api.ErrNone
	}
	if id == 0 {
		return api.ErrArg
	}
	in := m.rows[m.place(id):m.end(m.place(id))]
	if slices.ContainsFunc(in, func(r row) bool { return r.id == up }) {
		return api.ErrCycle
	}
	others := slices.DeleteFunc(m.kids(up), func(kid int) bool { return kid == id })
	if at < 0 || at > len(others) {
		return api.ErrArg
	}
	for _, r := range in {
		if r.depth-m.depth(id)+m.depth(up)+1 > 63 {
			return api.ErrDeep
		}
	}
	m.put(m.take(id), up, at)
	return api.OK
}

func (m *model) set(id int, s api.Style, ok bool) api.Errno {
	switch {
	case m.place(id) < 0:
		return api.ErrNone
	case !ok:
		return api.ErrArg
	}
	m.rows[m.place(id)].style = s
	return api.OK
}

// same holds all that a tree tells against what the model does.
func same(t *testing.T, x *Tree, m *model) {
	t.Helper()
	if got, want := x.Order(), m.order(); !slices.Equal(got, want) {
		t.Fatalf("Order = %d, want %d", got, want)
	}
	if got, want := x.Len(), len(m.rows); got != want {
		t.Fatalf("Len = %d, want %d", got, want)
	}
	ids := append(m.order(), math.MinInt, -2, -1, len(m.rows), len(m.rows)+1, 4095, 4096, math.MaxInt)
	for _, id := range ids {
		if got, want := x.Has(id), m.place(id) >= 0; got != want {
			t.Fatalf("Has(%d) = %t, want %t", id, got, want)
		}
		if got, want := x.Up(id), m.up(id); got != want {
			t.Fatalf("Up(%d) = %d, want %d", id, got, want)
		}
		if got, want := x.Depth(id), m.depth(id); got != want {
			t.Fatalf("Depth(%d) = %d, want %d", id, got, want)
		}
		if got, want := x.Kids(id), m.kids(id); !slices.Equal(got, want) {
			t.Fatalf("Kids(%d) = %d, want %d", id, got, want)
		}
		if got, want := x.Style(id), m.style(id); got != want {
			t.Fatalf("Style(%d) = %v, want %v", id, got, want)
		}
	}
}

// pair is a tree and its model, to which the same is done.
type pair struct {
	x *Tree
	m *model
}

func newPair() pair { return pair{New(), newModel()} }

func (p pair) clone() pair {
	return pair{p.x.Clone(), &model{rows: slices.Clone(p.m.rows)}}
}

func (p pair) add(t *testing.T, up, at int) int {
	t.Helper()
	got, e := p.x.Add(up, at)
	want, f := p.m.add(up, at)
	if got != want || e != f {
		t.Fatalf("Add(%d, %d) = %d, %v, want %d, %v", up, at, got, e, want, f)
	}
	return got
}

func (p pair) remove(t *testing.T, id int) {
	t.Helper()
	got, e := p.x.Remove(id)
	want, f := p.m.remove(id)
	if got != want || e != f {
		t.Fatalf("Remove(%d) = %d, %v, want %d, %v", id, got, e, want, f)
	}
}

func (p pair) move(t *testing.T, id, up, at int) {
	t.Helper()
	if e, f := p.x.Move(id, up, at), p.m.move(id, up, at); e != f {
		t.Fatalf("Move(%d, %d, %d) = %v, want %v", id, up, at, e, f)
	}
}

func (p pair) set(t *testing.T, id int, s api.Style, ok bool) {
	t.Helper()
	if e, f := p.x.Set(id, s), p.m.set(id, s, ok); e != f {
		t.Fatalf("Set(%d) = %v, want %v", id, e, f)
	}
}

// built is a tree of these boxes, by which one each is in: the last one of its kids.
func built(t *testing.T, ups ...int) pair {
	t.Helper()
	p := newPair()
	for _, up := range ups {
		p.add(t, up, len(p.m.kids(up)))
	}
	return p
}

// chain is a tree in which each box is in the one ahead of it, so that the last
// one's depth is its number.
func chain(t *testing.T, boxes int) pair {
	t.Helper()
	p := newPair()
	for id := range boxes {
		p.add(t, id, 0)
	}
	return p
}

func TestNew(t *testing.T) {
	x := New()
	if !slices.Equal(x.Order(), []int{0}) || x.Len() != 1 || !x.Has(0) || x.Up(0) != -1 || x.Depth(0) != 0 || len(x.Kids(0)) != 0 || x.Style(0) != (api.Style{}) {
		t.Errorf("a new one is no root alone: %d", x.Order())
	}
	same(t, x, newModel())
}

func TestExample(t *testing.T) {
	x := New()
	for want := 1; want <= 2; want++ {
		if id, e := x.Add(0, 0); id != want || e != api.OK {
			t.Errorf("Add = %d, %v, want %d", id, e, want)
		}
	}
	if e := x.Move(1, 2, 0); e != api.OK {
		t.Errorf("Move 1 below 2: %v", e)
	}
	if e := x.Move(2, 1, 0); e != api.ErrCycle {
		t.Errorf("Move 2 below 1: %v", e)
	}
	if !slices.Equal(x.Order(), []int{0, 2, 1}) {
		t.Errorf("Order = %d", x.Order())
	}
}

// A box is the at-th kid, and those from there on come behind it.
func TestAddAt(t *testing.T) {
	for at := range 4 {
		x := built(t, 0, 0, 0, 2).x
		id, e := x.Add(0, at)
		want := slices.Insert([]int{1, 2, 3}, at, 5)
		if id != 5 || e != api.OK || !slices.Equal(x.Kids(0), want) {
			t.Errorf("Add(0, %d) = %d, %v: %d", at, id, e, x.Kids(0))
		}
		if x.Up(5) != 0 || x.Depth(5) != 1 || len(x.Kids(5)) != 0 || !slices.Equal(x.Kids(2), []int{4}) {
			t.Errorf("Add(0, %d): %d", at, x.Order())
		}
	}
}

func TestOrder(t *testing.T) {
	x := built(t, 0, 0, 1, 1, 2, 3, 0, 3).x
	if got := x.Order(); !slices.Equal(got, []int{0, 1, 3, 6, 8, 4, 2, 5, 7}) {
		t.Errorf("Order = %d", got)
	}
}

func TestAddErrors(t *testing.T) {
	for _, row := range []struct {
		up, at int
		want   api.Errno
	}{
		{3, 0, api.ErrNone}, {-1, 0, api.ErrNone}, {3, -1, api.ErrNone}, {math.MaxInt, math.MaxInt, api.ErrNone}, {math.MinInt, 0, api.ErrNone},
		{0, -1, api.ErrArg}, {0, 3, api.ErrArg}, {1, 1, api.ErrArg}, {0, math.MinInt, api.ErrArg}, {0, math.MaxInt, api.ErrArg},
	} {
		p := built(t, 0, 0)
		if id, e := p.x.Add(row.up, row.at); id != -1 || e != row.want {
			t.Errorf("Add(%d, %d) = %d, %v, want %v", row.up, row.at, id, e, row.want)
		}
		same(t, p.x, p.m)
	}
}

// The least number that no box has is taken, whichever went last.
func TestLeastNumber(t *testing.T) {
	p := built(t, 0, 0, 0, 3, 3, 0)
	for _, id := range []int{5, 2, 6, 1} {
		p.remove(t, id)
	}
	for _, want := range []int{1, 2, 5, 6, 7} {
		if id := p.add(t, 3, 0); id != want {
			t.Errorf("Add = %d, want %d", id, want)
		}
	}
	same(t, p.x, p.m)
}

// A number that is taken again has nothing of the box that had it.
func TestNumberTakenAgain(t *testing.T) {
	x := built(t, 0, 1, 1).x
	x.Set(1, api.Style{Gap: 5})
	x.Set(2, api.Style{Gap: 6})
	x.Remove(1)
	for want := 1; want <= 3; want++ {
		id, e := x.Add(0, 0)
		if id != want || e != api.OK || x.Style(id) != (api.Style{}) || len(x.Kids(id)) != 0 || x.Up(id) != 0 {
			t.Errorf("Add = %d, %v: %v, %d in %d", id, e, x.Style(id), x.Kids(id), x.Up(id))
		}
	}
}

// full is a tree of all boxes that there may be, and one that is deepest.
func full(t *testing.T) pair {
	t.Helper()
	p := newPair()
	up := 0
	for range 63 {
		up, _ = p.x.Add(up, 0)
		p.m.rows = append(p.m.rows, row{id: up, depth: up})
	}
	for id := 64; id < 4096; id++ {
		got, e := p.x.Add(0, id-63)
		if got != id || e != api.OK {
			t.Fatalf("Add of %d: %d, %v", id, got, e)
		}
		p.m.rows = append(p.m.rows, row{id: id, depth: 1})
	}
	return p
}

func TestFull(t *testing.T) {
	p := full(t)
	x := p.x
	if x.Len() != 4096 || x.Len() != api.MaxBoxes {
		t.Fatalf("Len = %d", x.Len())
	}
	for _, row := range []struct {
		up, at int
		want   api.Errno
	}{{4096, 0, api.ErrNone}, {0, -1, api.ErrArg}, {0, 4034, api.ErrArg}, {63, 1, api.ErrArg}, {63, 0, api.ErrFull}, {0, 4033, api.ErrFull}, {0, 0, api.ErrFull}, {4095, 0, api.ErrFull}} {
		if id, e := x.Add(row.up, row.at); id != -1 || e != row.want {
			t.Errorf("Add(%d, %d) = %d, %v, want %v", row.up, row.at, id, e, row.want)
		}
	}
	if !slices.Equal(x.Order(), p.m.order()) || x.Len() != 4096 {
		t.Error("an error has changed something")
	}
	if e := x.Move(4095, 4094, 0); e != api.OK {
		t.Errorf("Move = %v", e)
	}
	if n, e := x.Remove(2000); n != 1 || e != api.OK {
		t.Errorf("Remove = %d, %v", n, e)
	}
	if id, e := x.Add(63, 0); id != -1 || e != api.ErrDeep {
		t.Errorf("Add to the deepest = %d, %v", id, e)
	}
	if id, e := x.Add(4095, 0); id != 2000 || e != api.OK {
		t.Errorf("Add = %d, %v", id, e)
	}
	if id, e := x.Add(4095, 0); id != -1 || e != api.ErrFull {
		t.Errorf("Add = %d, %v", id, e)
	}
	if n, e := x.Remove(1); n != 63 || e != api.OK || x.Len() != 4033 {
		t.Errorf("Remove = %d, %v", n, e)
	}
}

func TestDeep(t *testing.T) {
	p := chain(t, 63)
	if p.x.Depth(63) != 63 || p.x.Depth(62) != 62 {
		t.Fatalf("Depth = %d", p.x.Depth(63))
	}
	for _, row := range []struct {
		up, at int
		want   api.Errno
	}{{63, 0, api.ErrDeep}, {63, 1, api.ErrArg}, {63, -1, api.ErrArg}, {64, 0, api.ErrNone}} {
		if id, e := p.x.Add(row.up, row.at); id != -1 || e != row.want {
			t.Errorf("Add(%d, %d) = %d, %v, want %v", row.up, row.at, id, e, row.want)
		}
	}
	same(t, p.x, p.m)
	if id := p.add(t, 62, 1); id != 64 || p.x.Depth(64) != 63 {
		t.Errorf("Add = %d, %d deep", id, p.x.Depth(id))
	}
}

// What is deepest may come down to 63, and not by 1 more, nor one alone.
func TestMoveDeep(t *testing.T) {
	p := chain(t, 62)
	p.add(t, 0, 1) // 63, in which are 64, and in it 65; and 66
	p.add(t, 63, 0)
	p.add(t, 64, 0)
	p.add(t, 63, 1)
	for _, row := range []struct {
		id, up, at int
		want       api.Errno
	}{
		{63, 62, 0, api.ErrDeep}, {63, 61, 0, api.ErrDeep}, {63, 61, 2, api.ErrArg}, {63, 60, 0, api.OK}, {63, 61, 1, api.ErrDeep},
		{66, 62, 0, api.OK}, {65, 66, 0, api.ErrDeep}, {65, 62, 1, api.OK}, {64, 62, 2, api.OK}, {64, 66, 0, api.ErrDeep},
		{63, 61, 1, api.OK}, {63, 62, 3, api.OK}, {63, 64, 0, api.ErrDeep}, {62, 60, 1, api.OK}, {61, 66, 0, api.OK}, {1, 1, 0, api.ErrCycle}, {1, 61, 0, api.ErrCycle},
	} {
		q := p.clone()
		if e := q.x.Move(row.id, row.up, row.at); e != row.want {
			t.Errorf("Move(%d, %d, %d) = %v, want %v", row.id, row.up, row.at, e, row.want)
		}
		p.move(t, row.id, row.up, row.at)
		same(t, p.x, p.m)
	}
}

func TestRemove(t *testing.T) {
	for _, row := range []struct {
		id, want int
		e        api.Errno
		order    []int
	}{
		{1, 5, api.OK, []int{0, 2, 5, 7}},
		{3, 3, api.OK, []int{0, 1, 4, 2, 5, 7}},
		{7, 1, api.OK, []int{0, 1, 3, 6, 8, 4, 2, 5}},
		{0, 0, api.ErrArg, []int{0, 1, 3, 6, 8, 4, 2, 5, 7}},
		{9, 0, api.ErrNone, []int{0, 1, 3, 6, 8, 4, 2, 5, 7}},
		{-1, 0, api.ErrNone, []int{0, 1, 3, 6, 8, 4, 2, 5, 7}},
		{math.MaxInt, 0, api.ErrNone, []int{0, 1, 3, 6, 8, 4, 2, 5, 7}},
	} {
		x := built(t, 0, 0, 1, 1, 2, 3, 0, 3).x
		if n, e := x.Remove(row.id); n != row.want || e != row.e || !slices.Equal(x.Order(), row.order) || x.Len() != len(row.order) {
			t.Errorf("Remove(%d) = %d, %v: %d", row.id, n, e, x.Order())
		}
	}
	x := built(t, 0, 1, 2).x
	x.Set(3, api.Style{Gap: 1})
	x.Remove(2)
	for id := 2; id <= 3; id++ {
		if x.Has(id) || x.Up(id) != -1 || x.Depth(id) != -1 || len(x.Kids(id)) != 0 || x.Style(id) != (api.Style{}) {
			t.Errorf("%d is there yet", id)
		}
		if n, e := x.Remove(id); n != 0 || e != api.ErrNone {
			t.Errorf("Remove(%d) once more = %d, %v", id, n, e)
		}
	}
}

// The place is that among the kids without the box itself.
func TestMoveAmongKids(t *testing.T) {
	for id := 1; id <= 4; id++ {
		for at := range 4 {
			x := built(t, 0, 0, 0, 0, 2).x
			want := slices.DeleteFunc([]int{1, 2, 3, 4}, func(kid int) bool { return kid == id })
			want = slices.Insert(want, at, id)
			if e := x.Move(id, 0, at); e != api.OK || !slices.Equal(x.Kids(0), want) || !slices.Equal(x.Kids(2), []int{5}) {
				t.Errorf("Move(%d, 0, %d) = %v: %d", id, at, e, x.Kids(0))
			}
		}
		x := built(t, 0, 0, 0, 0, 2).x
		for _, at := range []int{-1, 4, math.MinInt, math.MaxInt} {
			if e := x.Move(id, 0, at); e != api.ErrArg || !slices.Equal(x.Order(), []int{0, 1, 2, 5, 3, 4}) {
				t.Errorf("Move(%d, 0, %d) = %v", id, at, e)
			}
		}
	}
}

// All that is in a box goes with it, with its styles.
func TestMoveAll(t *testing.T) {
	p := built(t, 0, 0, 1, 1, 3, 2)
	p.set(t, 1, api.Style{Gap: 1}, true)
	p.set(t, 5, api.Style{Gap: 5}, true)
	p.move(t, 1, 6, 0)
	if !slices.Equal(p.x.Order(), []int{0, 2, 6, 1, 3, 5, 4}) || p.x.Depth(5) != 5 || p.x.Style(5).Gap != 5 || p.x.Up(1) != 6 || p.x.Len() != 7 {
		t.Errorf("Order = %d", p.x.Order())
	}
	same(t, p.x, p.m)
	p.move(t, 1, 2, 1)
	p.move(t, 3, 0, 1)
	same(t, p.x, p.m)
}

func TestMoveErrors(t *testing.T) {
	for _, row := range []struct {
		id, up, at int
		want       api.Errno
	}{
		{9, 0, 0, api.ErrNone}, {1, 9, 0, api.ErrNone}, {9, 9, -1, api.ErrNone}, {0, 9, 0, api.ErrNone}, {-1, -1, 0, api.ErrNone}, {1, -1, 0, api.ErrNone},
		{0, 0, 0, api.ErrArg}, {0, 1, 0, api.ErrArg}, {0, 3, -1, api.ErrArg},
		{1, 1, 0, api.ErrCycle}, {1, 3, 0, api.ErrCycle}, {1, 4, 7, api.ErrCycle}, {1, 1, -1, api.ErrCycle},
		{1, 2, 1, api.ErrArg}, {3, 0, 3, api.ErrArg}, {3, 1, 1, api.ErrArg}, {1, 0, 2, api.ErrArg}, {1, 0, -1, api.ErrArg},
	} {
		p := built(t, 0, 0, 1, 3)
		if e := p.x.Move(row.id, row.up, row.at); e != row.want {
			t.Errorf("Move(%d, %d, %d) = %v, want %v", row.id, row.up, row.at, e, row.want)
		}
		same(t, p.x, p.m)
	}
}

func TestSet(t *testing.T) {
	p := built(t, 0, 0)
	good := api.Style{Display: api.ShowRow, Margin: [4]api.Len{1: {Kind: api.Px, N: -5}}, Content: [2]int{3, 4}}
	for _, id := range []int{0, 1, 2, 3, -1, math.MaxInt} {
		p.set(t, id, good, true)
		same(t, p.x, p.m)
		for _, bad := range []api.Style{{Gap: -1}, {Display: 4}, {Width: api.Len{N: 1}}, {Margin: [4]api.Len{3: {Kind: 3}}}, {Content: [2]int{0, 1<<20 + 1}}} {
			p.set(t, id, bad, false)
			same(t, p.x, p.m)
		}
	}
	if p.x.Style(1) != good || p.x.Set(3, api.Style{Gap: -1}) != api.ErrNone || p.x.Set(1, api.Style{Gap: -1}) != api.ErrArg {
		t.Error("Set")
	}
	p.set(t, 1, api.Style{}, true)
	same(t, p.x, p.m)
}

// Each way in which a small tree can come to be, and each move of it.
func TestAllSmallTrees(t *testing.T) {
	var grow func(p pair)
	grow = func(p pair) {
		same(t, p.x, p.m)
		for id := -1; id <= 5; id++ {
			q := p.clone()
			q.remove(t, id)
			same(t, q.x, q.m)
			for up := -1; up <= 5; up++ {
				for at := -1; at <= 5; at++ {
					q := p.clone()
					q.move(t, id, up, at)
					same(t, q.x, q.m)
				}
			}
		}
		if len(p.m.rows) == 5 {
			return
		}
		for up := range p.m.rows {
			for at := range len(p.m.kids(up)) + 1 {
				q := p.clone()
				q.add(t, up, at)
				grow(q)
			}
		}
	}
	grow(newPair())
}

// anyOf is a number that is mostly within.
func anyOf(source *rand.Rand, n int) int {
	if source.Intn(20) == 0 {
		return []int{math.MinInt, math.MaxInt, -1, n, 1 << 32, 4095, 4096}[source.Intn(7)]
	}
	return source.Intn(n)
}

// step does anything to a tree, rather at its deep end.
func step(t *testing.T, source *rand.Rand, p pair, deep bool) {
	t.Helper()
	n := len(p.m.rows)
	up := anyOf(source, n+1)
	if deep && source.Intn(2) == 0 {
		up = p.m.rows[n-1].id
	}
	at := anyOf(source, 3)
	switch source.Intn(16) {
	case 0:
		p.remove(t, anyOf(source, n+1))
	case 1, 2, 3, 4:
		p.move(t, anyOf(source, n+1), up, at)
	case 5, 6:
		gap := source.Intn(5) - 1
		p.set(t, anyOf(source, n+1), api.Style{Gap: gap}, gap >= 0)
	default:
		p.add(t, up, at)
	}
}

// Whatever is done, all calls are what the document's words tell.
func TestAnySteps(t *testing.T) {
	source := rand.New(rand.NewSource(1))
	for round := range 60 {
		p := chain(t, []int{0, 61}[round%2])
		for range 100 {
			step(t, source, p, round%2 == 1)
			same(t, p.x, p.m)
		}
	}
}

// Each box is once in the order, behind the one that it is in.
func TestEachIsOnceBehindItsUp(t *testing.T) {
	source := rand.New(rand.NewSource(2))
	p := newPair()
	for range 2000 {
		step(t, source, p, true)
		seen := map[int]int{}
		for place, id := range p.x.Order() {
			if _, twice := seen[id]; twice {
				t.Fatalf("%d is twice in the order", id)
			}
			if _, ahead := seen[p.x.Up(id)]; !ahead && id != 0 {
				t.Fatalf("%d stands ahead of %d", id, p.x.Up(id))
			}
			seen[id] = place
		}
		if len(seen) != p.x.Len() {
			t.Fatalf("%d in the order, of %d", len(seen), p.x.Len())
		}
	}
}

// Clones, and other trees, know nothing of each other.
func TestCloneIsOneOfItsOwn(t *testing.T) {
	source := rand.New(rand.NewSource(3))
	p, other := newPair(), newPair()
	for range 60 {
		q := p.clone()
		same(t, q.x, q.m)
		for range 8 {
			step(t, source, p, false)
			step(t, source, q, false)
			step(t, source, other, false)
		}
		same(t, p.x, p.m)
		same(t, q.x, q.m)
		same(t, other.x, other.m)
		if source.Intn(2) == 0 {
			p = q
		}
	}
}

// A clone of a tree whose kids have gone, and come, writes over none of them.
func TestCloneSharesNoKids(t *testing.T) {
	p := built(t, 0, 0, 0, 0)
	p.remove(t, 4)
	q := p.clone()
	p.add(t, 0, 3)
	q.add(t, 1, 0)
	q.move(t, 4, 0, 3)
	p.remove(t, 1)
	q.move(t, 2, 0, 0)
	same(t, p.x, p.m)
	same(t, q.x, q.m)
}

func TestAnswersShareNothing(t *testing.T) {
	p := built(t, 0, 0, 0, 1, 1)
	p.remove(t, 3) // room behind the last kid
	for _, l := range [][]int{p.x.Kids(0), p.x.Kids(1), p.x.Order()} {
		l = append(l, -7)
		for i := range l {
			l[i] = -7
		}
	}
	same(t, p.x, p.m)
	kids, order := p.x.Kids(0), p.x.Order()
	p.add(t, 0, 0)
	p.remove(t, 1)
	if !slices.Equal(kids, []int{1, 2}) || !slices.Equal(order, []int{0, 1, 4, 5, 2}) {
		t.Errorf("answers have changed: %d, %d", kids, order)
	}
}

// What tells a tree changes nothing, at all arguments.
func TestTellingChangesNothing(t *testing.T) {
	p := built(t, 0, 1, 0)
	p.set(t, 2, api.Style{Gap: 9}, true)
	for range 3 {
		same(t, p.x, p.m)
		p.x.Clone()
	}
}

// A tree that New didn't make has no boxes, and no call of it panics.
func TestNotMadeByNew(t *testing.T) {
	for _, x := range []*Tree{nil, {}} {
		for _, y := range []*Tree{x, x.Clone()} {
			if len(y.Order()) != 0 || y.Len() != 0 || y.Has(0) || y.Up(0) != -1 || y.Depth(0) != -1 || len(y.Kids(0)) != 0 || y.Style(0) != (api.Style{}) {
				t.Error("there is a box")
			}
			if id, e := y.Add(0, 0); id != -1 || e != api.ErrNone {
				t.Errorf("Add = %d, %v", id, e)
			}
			if n, e := y.Remove(0); n != 0 || e != api.ErrNone {
				t.Errorf("Remove = %d, %v", n, e)
			}
			if y.Move(0, 0, 0) != api.ErrNone || y.Set(0, api.Style{}) != api.ErrNone {
				t.Error("Move, Set")
			}
		}
	}
}
