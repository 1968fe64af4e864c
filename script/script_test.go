package script

import (
	"math"
	"math/rand"
	"slices"
	"testing"

	"valance/api"
	"valance/engine"
	"valance/record"
)

func px(n int) api.Len { return api.Len{Kind: api.Px, N: n} }

// longs are how many numbers operations are, by their kinds, written out.
func longs() []int { return []int{3, 2, 4, 57, 4, 3, 3, 2, 2} }

// style is one that has a number of its own at each end.
func style() api.Style {
	return api.Style{Display: api.ShowColumn, Width: px(30), Margin: [4]api.Len{px(-5)}, Z: -7, NoHit: true, Content: [2]int{8, 9}}
}

// styleRow is the numbers of style, written out.
func styleRow() []int {
	row := make([]int, 55)
	row[0], row[3], row[4], row[15], row[16] = 2, 1, 30, 1, -5
	row[48], row[52], row[53], row[54] = -7, 1, 8, 9
	return row
}

// one is an operation, and its numbers.
type one struct {
	op  api.Op
	row []int
}

// each is one of each kind, and one that tells nothing but noughts.
func each() []one {
	return []one{
		{api.Op{Kind: api.OpAdd, A: 11, B: 12}, []int{0, 11, 12}},
		{api.Op{Kind: api.OpRemove, A: 13}, []int{1, 13}},
		{api.Op{Kind: api.OpMove, A: 14, B: -15, C: 16}, []int{2, 14, -15, 16}},
		{api.Op{Kind: api.OpStyle, A: 17, Style: style()}, append([]int{3, 17}, styleRow()...)},
		{api.Op{Kind: api.OpScroll, A: 18, B: 19, C: 20}, []int{4, 18, 19, 20}},
		{api.Op{Kind: api.OpView, A: math.MinInt, B: math.MaxInt}, []int{5, math.MinInt, math.MaxInt}},
		{api.Op{Kind: api.OpHit, A: 21, B: 22}, []int{6, 21, 22}},
		{api.Op{Kind: api.OpRect, A: 23}, []int{7, 23}},
		{api.Op{Kind: api.OpOffset, A: -24}, []int{8, -24}},
		{api.Op{}, []int{0, 0, 0}},
	}
}

// all are those of each, one behind another.
func all() ([]api.Op, []int) {
	l, n := []api.Op{}, []int{}
	for _, x := range each() {
		l, n = append(l, x.op), append(n, x.row...)
	}
	return l, n
}

// same holds both calls of operations, whose numbers these are.
func same(t *testing.T, l []api.Op, n []int) {
	t.Helper()
	if got, e := Put(l); e != api.OK || !slices.Equal(got, n) {
		t.Errorf("Put(%v) = %v, %v, want %v", l, got, e, n)
	}
	if got, e, at := Get(n); e != api.OK || at != 0 || !slices.Equal(got, l) {
		t.Errorf("Get(%v) = %v, %v, %d, want %v", n, got, e, at, l)
	}
}

// refused holds that operations have no numbers.
func refused(t *testing.T, name string, l ...api.Op) {
	t.Helper()
	if n, e := Put(l); e != api.ErrArg || len(n) != 0 {
		t.Errorf("%s: Put(%v) = %v, %v, want none, and ErrArg", name, l, n, e)
	}
}

// got holds what numbers are, as far as they are something.
func got(t *testing.T, name string, n []int, want []api.Op, err api.Errno, at int) {
	t.Helper()
	if l, e, place := Get(n); e != err || place != at || !slices.Equal(l, want) {
		t.Errorf("%s: Get tells %d operations, %v, %d, want %d, %v, %d", name, len(l), e, place, len(want), err, at)
	}
}

func TestLong(t *testing.T) {
	for k, want := range longs() {
		if got := Long(api.OpKind(k)); got != want {
			t.Errorf("Long(%d) = %d, want %d", k, got, want)
		}
	}
	for _, k := range []api.OpKind{-1, 9, 10, 56, 1 << 8, 1 << 32, 1<<32 + 3, math.MaxInt, math.MinInt, math.MinInt + 3} {
		if got := Long(k); got != 0 {
			t.Errorf("Long(%d) = %d of no such kind", k, got)
		}
	}
}

func TestExample(t *testing.T) {
	same(t, []api.Op{{Kind: api.OpAdd}, {Kind: api.OpRect, A: 1}}, []int{0, 0, 0, 7, 1})
}

func TestNothing(t *testing.T) {
	same(t, nil, nil)
	same(t, []api.Op{}, []int{})
	if a := Play(10, 10, nil); len(a) != 0 {
		t.Errorf("nothing is answered by %v", a)
	}
}

// Each kind's numbers stand as they are written out, and are as many as Long tells.
func TestEachKind(t *testing.T) {
	for _, x := range each() {
		same(t, []api.Op{x.op}, x.row)
		if got := Long(x.op.Kind); got != len(x.row) {
			t.Errorf("Long(%d) = %d, of %v", x.op.Kind, got, x.row)
		}
	}
}

func TestOneBehindAnother(t *testing.T) {
	same(t, first(all()), second(all()))
	for _, x := range each() {
		for _, y := range each() {
			same(t, []api.Op{x.op, y.op}, slices.Concat(x.row, y.row))
		}
	}
}

func first(l []api.Op, _ []int) []api.Op { return l }

func second(_ []api.Op, n []int) []int { return n }

// more are the same operation, with each one of the things in it that may be
// something else.
func more(o api.Op) [4]api.Op {
	l := [4]api.Op{o, o, o, o}
	l[0].A, l[1].B, l[2].C, l[3].Style = 1, -1, math.MinInt, api.Style{NoHit: true}
	return l
}

// tells are how many of A, B, C, and a style, a kind tells, written out.
func tells() [][4]bool {
	return [][4]bool{
		{true, true}, {true}, {true, true, true}, {true, false, false, true}, {true, true, true},
		{true, true}, {true, true}, {true}, {true},
	}
}

// What is put of an operation is all of it, or nothing is put.
func TestTellsSomethingElse(t *testing.T) {
	for k, told := range tells() {
		o := api.Op{Kind: api.OpKind(k)}
		for part, may := range told {
			x := more(o)[part]
			if !may {
				refused(t, "something else", x)
				refused(t, "something else, last", append(first(all()), x)...)
				refused(t, "something else, first", append([]api.Op{x}, first(all())...)...)
				continue
			}
			if n, e := Put([]api.Op{x}); e != api.OK || len(n) != longs()[k] {
				t.Errorf("Put(%v) = %v, %v", x, n, e)
			}
		}
	}
}

// The least thing in a style is told by no kind but OpStyle.
func TestStyleOfOthers(t *testing.T) {
	for at := range record.Fields {
		row := make([]int, record.Fields)
		row[at] = 1
		s, err := record.Get(row)
		if err != api.OK {
			continue // the number of a length has no kind
		}
		for k := range longs() {
			o := api.Op{Kind: api.OpKind(k), Style: s}
			if o.Kind != api.OpStyle {
				refused(t, "a style", o)
			} else {
				same(t, []api.Op{o}, append([]int{3, 0}, row...))
			}
		}
	}
}

func TestNoSuchKind(t *testing.T) {
	for _, k := range []int{-1, 9, 57, 1 << 8, 1 << 32, math.MaxInt, math.MinInt} {
		o := api.Op{Kind: api.OpKind(k)}
		refused(t, "no such kind", o)
		refused(t, "no such kind, last", append(first(all()), o)...)
		refused(t, "no such kind, first", append([]api.Op{o}, first(all())...)...)
		got(t, "no such kind", []int{k}, nil, api.ErrForm, 0)
		got(t, "no such kind, and much behind it", append([]int{k}, make([]int, 99)...), nil, api.ErrForm, 0)
		l, n := all()
		got(t, "no such kind, last", append(n, k), l, api.ErrForm, len(n))
	}
}

// wrongStyles are some that are none, each by one of its numbers.
func wrongStyles() []api.Style {
	return []api.Style{
		{Display: 4}, {Position: -1}, {Overflow: 3}, {Width: api.Len{N: 1}}, {Basis: api.Len{Kind: 3}},
		{Padding: [4]int{3: -1}}, {Grow: 1001}, {Gap: 1<<20 + 1}, {Z: -1<<20 - 1}, {Content: [2]int{0, -1}},
	}
}

func TestNoStyle(t *testing.T) {
	l, n := all()
	for _, s := range wrongStyles() {
		for k := range longs() {
			refused(t, "no style", api.Op{Kind: api.OpKind(k), Style: s})
		}
		o, row := api.Op{Kind: api.OpStyle, A: 5, Style: s}, append([]int{3, 5}, record.Put(s)...)
		refused(t, "no style, last", append(first(all()), o)...)
		refused(t, "no style, first", append([]api.Op{o}, l...)...)
		got(t, "no style", row, nil, api.ErrForm, 0)
		got(t, "no style, last", slices.Concat(n, row), l, api.ErrForm, len(n))
		got(t, "no style, first", slices.Concat(row, n), nil, api.ErrForm, 0)
	}
	for _, at := range []int{45, 47, 51, 52} {
		row := append([]int{3, 5}, make([]int, 55)...)
		row[2+at] = 2
		got(t, "neither true nor false", slices.Concat(n, row, n), l, api.ErrForm, len(n))
	}
}

// Wherever numbers end, those that are whole are told, and where the one begins that
// is not.
func TestShort(t *testing.T) {
	l, n := all()
	whole, begins := 0, 0
	for end := range n {
		if end == begins+longs()[l[whole].Kind] {
			begins, whole = end, whole+1
		}
		if end == begins {
			got(t, "whole ones", n[:end], l[:whole], api.OK, 0)
		} else {
			got(t, "a short one", n[:end], l[:whole], api.ErrShort, begins)
		}
	}
}

// many are so many that are all alike, and their numbers.
func many(n int) ([]api.Op, []int) {
	return slices.Repeat([]api.Op{{Kind: api.OpRect, A: 6}}, n), slices.Repeat([]int{7, 6}, n)
}

func TestThousand(t *testing.T) {
	for _, n := range []int{1, 999, 1000} {
		same(t, first(many(n)), second(many(n)))
	}
	l, n := many(1000)
	for _, n := range []int{1001, 1002, 2000, 100000} {
		refused(t, "too many", first(many(n))...)
		got(t, "too many", second(many(n)), l, api.ErrForm, 2000)
	}
	refused(t, "too many, and no such kind", append(first(many(1000)), api.Op{Kind: 9})...)
	for _, row := range [][]int{{7}, {9}, {-1}, {3}, append([]int{3, 1}, slices.Repeat([]int{-1}, 55)...)} {
		got(t, "a thousand, and something", slices.Concat(n, row), l, api.ErrForm, 2000)
	}
	if got := len(Play(9, 9, second(many(2000)))); got != 1000 {
		t.Errorf("too many have %d answers", got)
	}
}

func TestThousandStyles(t *testing.T) {
	x := each()[3]
	same(t, slices.Repeat([]api.Op{x.op}, 1000), slices.Repeat(x.row, 1000))
}

// What is wrong first is told, and of one operation what its sentences name first.
func TestWhatIsToldFirst(t *testing.T) {
	l, n := all()
	wrong := append([]int{3, 1}, slices.Repeat([]int{-1}, 55)...)
	got(t, "short ahead of no style", slices.Concat(n, wrong[:56]), l, api.ErrShort, len(n))
	got(t, "no style ahead of no such kind", slices.Concat(n, wrong, []int{9}), l, api.ErrForm, len(n))
	got(t, "no such kind ahead of a short one", slices.Concat(n, []int{9, 3, 1}), l, api.ErrForm, len(n))
	got(t, "what looks like a kind is part of another", []int{5, 9, -1, 4, 9, 9, 9, 3}, []api.Op{{Kind: api.OpView, A: 9, B: -1}, {Kind: api.OpScroll, A: 9, B: 9, C: 9}}, api.ErrShort, 7)
}

// Nothing of an argument is changed, nor kept in an answer.
func TestNothingIsShared(t *testing.T) {
	l, n := all()
	put, _ := Put(l)
	again, _ := Put(l)
	told, _, _ := Get(n)
	toldAgain, _, _ := Get(n)
	if Play(9, 9, n); !slices.Equal(l, first(all())) || !slices.Equal(n, second(all())) {
		t.Error("an argument is changed")
	}
	clear(l)
	clear(n)
	clear(again)
	clear(toldAgain)
	if !slices.Equal(put, second(all())) || !slices.Equal(told, first(all())) {
		t.Error("an answer is changed by what is done to others")
	}
}

// wantGet is by the document's words.
func wantGet(n []int) ([]api.Op, api.Errno, int) {
	l := []api.Op{}
	for at := 0; at < len(n); {
		if n[at] < 0 || n[at] > 8 || len(l) >= 1000 {
			return l, api.ErrForm, at
		}
		end := at + longs()[n[at]]
		if end > len(n) {
			return l, api.ErrShort, at
		}
		o := api.Op{Kind: api.OpKind(n[at]), A: n[at+1]}
		if o.Kind == api.OpStyle {
			s, err := record.Get(n[at+2 : end])
			if err != api.OK {
				return l, err, at
			}
			o.Style = s
		} else if end > at+2 {
			o.B = n[at+2]
		}
		if end == at+4 {
			o.C = n[at+3]
		}
		l, at = append(l, o), end
	}
	return l, api.OK, 0
}

// held holds all calls of numbers, whatever they are.
func held(t *testing.T, n []int) {
	t.Helper()
	want, err, place := wantGet(n)
	got(t, "any numbers", n, want, err, place)
	end := place
	if err == api.OK {
		end = len(n)
	}
	if row, e := Put(want); e != api.OK || !slices.Equal(row, n[:end]) {
		t.Fatalf("Put(Get(%v)) = %v, %v", n, row, e)
	}
}

// someOp is one that can be put.
func someOp(c *rand.Rand) api.Op {
	o := api.Op{Kind: api.OpKind(c.Intn(9)), A: c.Intn(9) - 1}
	told := tells()[o.Kind]
	if told[1] {
		o.B = c.Int() >> c.Intn(63)
	}
	if told[2] {
		o.C = -c.Int() >> c.Intn(63)
	}
	if told[3] {
		o.Style = api.Style{Display: api.Display(c.Intn(4)), Wrap: c.Intn(2) == 0, Z: c.Intn(99) - 50}
		o.Style.Inset[c.Intn(4)] = px(c.Intn(9))
	}
	return o
}

// What is put is got again, whatever it is.
func TestPutIsGotAgain(t *testing.T) {
	c := rand.New(rand.NewSource(1))
	for range 2000 {
		l := []api.Op{}
		for range c.Intn(12) {
			l = append(l, someOp(c))
		}
		n, e := Put(l)
		if e != api.OK {
			t.Fatalf("Put(%v): %v", l, e)
		}
		same(t, l, n)
	}
}

// Each script has one row: what numbers are got of is put as these again; other
// numbers are another script, or none.
func TestOneRow(t *testing.T) {
	c := rand.New(rand.NewSource(2))
	for range 4000 {
		l := []api.Op{}
		for range 1 + c.Intn(6) {
			l = append(l, someOp(c))
		}
		n, _ := Put(l)
		other := slices.Clone(n)
		switch at := c.Intn(len(n)); c.Intn(4) {
		case 0:
			other[at] += c.Intn(7) - 3
		case 1:
			other[at] = c.Int() - c.Int()
		case 2:
			other = slices.Delete(other, at, at+1)
		case 3:
			other = slices.Insert(other, at, c.Intn(9))
		}
		held(t, other)
		if told, e, _ := Get(other); e == api.OK && slices.Equal(told, l) != slices.Equal(other, n) {
			t.Fatalf("%v and %v are both %v", n, other, l)
		}
	}
}

// At all numbers the calls end, and tell what is ahead of what is wrong.
func TestAtAllArguments(t *testing.T) {
	c := rand.New(rand.NewSource(3))
	far := []int{-1, 9, 1 << 20, 1<<20 + 1, api.Most, math.MaxInt, math.MinInt}
	for range 4000 {
		n := []int{}
		for range c.Intn(200) {
			if c.Intn(30) == 0 {
				n = append(n, far[c.Intn(len(far))])
			} else {
				n = append(n, c.Intn(9))
			}
		}
		held(t, n)
		Play(far[c.Intn(len(far))], far[c.Intn(len(far))], n)
	}
}

// At any operations Put ends, and tells what can be got again, or nothing.
func TestPutOfAnything(t *testing.T) {
	c := rand.New(rand.NewSource(4))
	for range 4000 {
		l := []api.Op{}
		for range c.Intn(4) {
			o := someOp(c)
			switch c.Intn(8) {
			case 0:
				o = more(o)[c.Intn(4)]
			case 1:
				o.Kind = api.OpKind(c.Intn(12) - 1)
			case 2:
				o.Style.Gap = c.Intn(3) - 1
			}
			l = append(l, o)
		}
		n, e := Put(l)
		if e == api.OK {
			same(t, l, n)
		} else {
			refused(t, "anything", l...)
		}
		if want := !slices.ContainsFunc(l, wrong); want != (e == api.OK) {
			t.Fatalf("Put(%v) = %v", l, e)
		}
	}
}

// wrong tells by the document's words whether an operation can't be put.
func wrong(o api.Op) bool {
	if o.Kind < 0 || o.Kind > 8 {
		return true
	}
	told := tells()[o.Kind]
	return !told[1] && o.B != 0 || !told[2] && o.C != 0 || !told[3] && o.Style != (api.Style{}) || !record.Valid(o.Style)
}

// answers holds that a script is answered as an engine answers its operations.
func answers(t *testing.T, w, h int, n []int) {
	t.Helper()
	e, want := engine.New(w, h), []api.Answer{}
	l, _, _ := wantGet(n)
	for _, o := range l {
		want = append(want, e.Do(o))
	}
	if a := Play(w, h, n); !slices.Equal(a, want) {
		t.Fatalf("Play(%d, %d, %v) = %v, want %v", w, h, n, a, want)
	}
}

func TestPlay(t *testing.T) {
	c := rand.New(rand.NewSource(5))
	for range 300 {
		l := []api.Op{{Kind: api.OpAdd}, {Kind: api.OpAdd, A: 1}}
		for range c.Intn(40) {
			o := someOp(c)
			o.B, o.C = o.B&3, o.C&3
			l = append(l, o)
		}
		n, _ := Put(l)
		answers(t, c.Intn(200), c.Intn(200), n)
		answers(t, 100, 60, n[:c.Intn(len(n))])
		answers(t, 100, 60, append(n, -1, 0, 0, 0))
	}
}

// A script of which something is wrong is done as far as that.
func TestPlayWhatIsAhead(t *testing.T) {
	l := []api.Op{{Kind: api.OpAdd}, {Kind: api.OpStyle, A: 1, Style: api.Style{Height: px(20)}}, {Kind: api.OpRect, A: 1}}
	n, _ := Put(l)
	want := []api.Answer{{N: 1}, {}, {Rect: api.Rect{W: 50, H: 20}}}
	for _, more := range [][]int{nil, {9}, {-1, 7, 1}, {7}, {3, 1, 0}, append([]int{3, 1, 9}, make([]int, 54)...)} {
		if a := Play(50, 60, slices.Concat(n, more)); !slices.Equal(a, want) {
			t.Errorf("%v behind it: %v", more, a)
		}
	}
}

// What an operation is told is answered with its error, and the next one is done.
func TestPlayGoesOn(t *testing.T) {
	n := slices.Concat([]int{0, 5, 0}, []int{0, 0, 1}, []int{1, 0}, []int{4, 0, 0, 0}, []int{5, -1, 0}, []int{7, 9}, []int{8, 9}, []int{0, 0, 0}, []int{2, 1, 1, 0})
	want := []api.Answer{{N: -1, Err: api.ErrNone}, {N: -1, Err: api.ErrArg}, {Err: api.ErrArg}, {Err: api.ErrArg}, {Err: api.ErrArg}, {Err: api.ErrNone}, {Err: api.ErrNone}, {N: 1}, {Err: api.ErrCycle}}
	if a := Play(50, 60, n); !slices.Equal(a, want) {
		t.Errorf("%v, want %v", a, want)
	}
}

// The window is held within its limits, by the engine that is made.
func TestPlayWindow(t *testing.T) {
	for _, x := range [][2]int{{0, 0}, {-1, 0}, {math.MinInt, 0}, {7, 7}, {1 << 20, 1 << 20}, {1<<20 + 1, 1 << 20}, {math.MaxInt, 1 << 20}} {
		a := Play(x[0], 5, []int{7, 0})
		if len(a) != 1 || a[0].Err != api.OK || a[0].Rect.W != x[1] {
			t.Errorf("a window %d wide: %v, want %d", x[0], a, x[1])
		}
	}
}

// Scripts know nothing of each other.
func TestPlayAgain(t *testing.T) {
	for range 3 {
		for _, w := range []int{30, 40} {
			want := []api.Answer{{N: 1}, {Rect: api.Rect{W: w}}}
			if a := Play(w, 60, []int{0, 0, 0, 7, 1}); !slices.Equal(a, want) {
				t.Errorf("%d wide: %v, want %v", w, a, want)
			}
		}
	}
}
