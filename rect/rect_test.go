package rect

import (
	"math"
	"testing"

	"valance/api"
)

const most = api.Most

func r(x, y, w, h int) api.Rect { return api.Rect{X: x, Y: y, W: w, H: h} }

func s(lo, hi int) api.Span { return api.Span{Lo: lo, Hi: hi} }

// p is a point, cut by nobody.
func p(x, y int) complex128 { return complex(float64(x), float64(y)) }

// notWhole are points that count as 0, 0.
func notWhole() []complex128 {
	return []complex128{
		0.5, 7 + 0.5i, 7.5 + 7i, complex(math.NaN(), 7), complex(7, math.NaN()), complex(math.Inf(1), 7), complex(7, math.Inf(-1)), p(most+1, 7), p(7, -most-1),
	}
}

// numbers are those about which something changes: nothing, a few, the limit,
// and the ends of what an int can be.
func numbers() []int {
	l := []int{math.MinInt, math.MinInt + 1, math.MaxInt}
	for _, n := range []int{0, 1, 5, 640, most - 1, most, most + 1} {
		l = append(l, n, -n)
	}
	return l
}

// stretches are where something begins, and how large it is, most of them
// beyond something.
func stretches() [][2]int {
	l := [][2]int{}
	for _, at := range []int{math.MinInt, -most - 1, -most, 1 - most, -3, 0, 5, most - 7, most - 1, most, most + 1, math.MaxInt} {
		for _, size := range []int{math.MinInt, -most, -1, 0, 1, 7, most - 1, most, most + 1, math.MaxInt} {
			l = append(l, [2]int{at, size})
		}
	}
	return l
}

// manyRects have each stretch across, and each one down, beside a few others.
func manyRects() []api.Rect {
	l := []api.Rect{}
	few := [][2]int{{-2, 9}, {0, most}, {3, 0}, {most, 5}, {math.MinInt, math.MaxInt}}
	for _, a := range stretches() {
		for _, b := range few {
			l = append(l, r(a[0], b[0], a[1], b[1]), r(b[0], a[0], b[1], a[1]))
		}
	}
	return l
}

// smallRects are all of those that are about 0.
func smallRects() []api.Rect {
	l := []api.Rect{}
	for x := -1; x <= 2; x++ {
		for y := -1; y <= 1; y++ {
			for w := -1; w <= 3; w++ {
				for h := -1; h <= 2; h++ {
					l = append(l, r(x, y, w, h))
				}
			}
		}
	}
	return l
}

// cut is written out here, so that it is the limit's own words that are held
// against what comes.
func cut(n int) int {
	if n > 1<<40 {
		return 1 << 40
	}
	if n < -1<<40 {
		return -1 << 40
	}
	return n
}

// isEmpty is by the document's words: W or H is not above 0.
func isEmpty(a api.Rect) bool {
	return !(a.W > 0) || !(a.H > 0)
}

func wantSpan(at, size int) api.Span {
	if size < 0 {
		size = 0
	}
	return s(cut(at), cut(cut(at)+cut(size)))
}

func wantSize(a api.Span) int {
	if n := cut(cut(a.Hi) - cut(a.Lo)); n > 0 {
		return n
	}
	return 0
}

// cases are what calls came to, beside what they should have.
type cases[T comparable] []struct{ got, want T }

func (l cases[T]) check(t *testing.T) {
	t.Helper()
	for i, x := range l {
		if x.got != x.want {
			t.Errorf("case %d: %v, want %v", i, x.got, x.want)
		}
	}
}

func TestOf(t *testing.T) {
	cases[api.Rect]{
		{Of(1, 2, 3, 4), r(1, 2, 3, 4)}, {Of(-1, -2, 3, 4), r(-1, -2, 3, 4)}, {Of(0, 0, 0, 0), r(0, 0, 0, 0)},
		// A size below 0 is one of 0, and the other one stays.
		{Of(1, 2, -3, 4), r(1, 2, 0, 4)}, {Of(1, 2, 3, -4), r(1, 2, 3, 0)}, {Of(1, 2, -1, -1), r(1, 2, 0, 0)}, {Of(1, 2, math.MinInt, math.MinInt), r(1, 2, 0, 0)},
		{Of(most, -most, most, most), r(most, -most, most, most)}, {Of(most+1, 2, 3, 4), r(most, 2, 3, 4)}, {Of(1, -most-1, 3, 4), r(1, -most, 3, 4)},
		{Of(1, 2, most+1, 4), r(1, 2, most, 4)}, {Of(1, 2, 3, most+1), r(1, 2, 3, most)},
		{Of(math.MinInt, math.MaxInt, math.MaxInt, math.MaxInt), r(-most, most, most, most)},
	}.check(t)
}

func TestAcrossAndDown(t *testing.T) {
	cases[api.Span]{
		{Across(r(1, 2, 30, 40)), s(1, 31)}, {Down(r(1, 2, 30, 40)), s(2, 42)}, {Across(r(-5, 2, 3, 40)), s(-5, -2)}, {Down(r(1, -5, 30, 3)), s(-5, -2)},
		{Across(r(1, 2, 0, 40)), s(1, 1)}, {Across(r(1, 2, -9, 40)), s(1, 1)}, {Down(r(1, 2, 30, 0)), s(2, 2)}, {Down(r(1, 2, 30, -9)), s(2, 2)},
		// Each is by itself, even if the other one is nothing.
		{Across(r(1, 2, 30, -9)), s(1, 31)}, {Down(r(1, 2, -9, 40)), s(2, 42)},
		{Across(r(most, 2, 5, 40)), s(most, most)}, {Down(r(1, most-3, 30, 5)), s(most-3, most)}, {Across(r(most+9, 2, 5, 40)), s(most, most)},
		{Across(r(math.MinInt, 0, math.MaxInt, 0)), s(-most, 0)}, {Down(r(0, math.MinInt, 0, math.MinInt)), s(-most, -most)},
	}.check(t)
}

func TestBy(t *testing.T) {
	cases[api.Rect]{
		{By(s(1, 4), s(2, 9)), r(1, 2, 3, 7)}, {By(s(-5, -2), s(-3, 4)), r(-5, -3, 3, 7)}, {By(s(0, 0), s(0, 0)), r(0, 0, 0, 0)},
		// An empty one is as large as 0, and begins where it begins.
		{By(s(4, 4), s(2, 9)), r(4, 2, 0, 7)}, {By(s(7, 2), s(2, 9)), r(7, 2, 0, 7)}, {By(s(1, 4), s(9, 2)), r(1, 9, 3, 0)}, {By(s(math.MaxInt, math.MinInt), s(2, 3)), r(math.MaxInt, 2, 0, 1)},
		{By(s(-most, most), s(0, most)), r(-most, 0, most, most)}, {By(s(0, math.MaxInt), s(most, most+9)), r(0, most, most, 0)},
		// Where it begins is taken as it is.
		{By(s(math.MinInt, 0), s(most+1, most+2)), r(math.MinInt, most+1, most, 0)},
	}.check(t)
}

func TestMeet(t *testing.T) {
	a := r(0, 0, 10, 20)
	zero := r(0, 0, 0, 0)
	cases[api.Rect]{
		{Meet(r(0, 0, 10, 10), r(5, 5, 10, 10)), r(5, 5, 5, 5)}, {Meet(a, r(8, -5, 10, 10)), r(8, 0, 2, 5)}, {Meet(r(8, -5, 10, 10), a), r(8, 0, 2, 5)},
		{Meet(a, a), a}, {Meet(a, r(2, 3, 4, 5)), r(2, 3, 4, 5)}, {Meet(a, r(-5, 19, 30, 1)), r(0, 19, 10, 1)}, {Meet(r(-9, -9, 4, 4), r(-7, -8, 9, 2)), r(-7, -8, 2, 2)},
		// What is empty one way is a zero one.
		{Meet(a, r(10, 0, 5, 5)), zero}, {Meet(a, r(0, 20, 5, 5)), zero}, {Meet(a, r(3, 20, 5, 5)), zero}, {Meet(a, r(30, 5, 5, 5)), zero}, {Meet(a, r(-9, -9, 9, 30)), zero},
		{Meet(a, r(2, 2, 0, 5)), zero}, {Meet(a, r(2, 2, 5, 0)), zero}, {Meet(r(2, 2, -5, 5), a), zero}, {Meet(r(2, 2, 5, -5), a), zero}, {Meet(r(2, 2, 0, 5), r(2, 2, 0, 5)), zero},
		{Meet(zero, a), zero}, {Meet(a, zero), zero}, {Meet(r(7, 7, -1, -1), r(7, 7, -1, -1)), zero},
		// What is beyond the limit is not there.
		{Meet(r(most-3, 0, 9, 9), r(0, 0, most, 9)), r(most-3, 0, 3, 9)}, {Meet(r(most, 0, 5, 5), r(most, 0, 5, 5)), zero}, {Meet(r(most+1, 0, 5, 5), r(most+1, 0, 5, 5)), zero},
		{Meet(r(math.MinInt, 3, math.MaxInt, 4), r(-5, 0, 10, 10)), r(-5, 3, 5, 4)}, {Meet(r(0, 0, math.MaxInt, math.MaxInt), r(0, 0, math.MaxInt, math.MaxInt)), r(0, 0, most, most)},
	}.check(t)
}

func TestJoin(t *testing.T) {
	a, b := r(0, 0, 10, 20), r(8, -5, 10, 10)
	zero := r(0, 0, 0, 0)
	cases[api.Rect]{
		{Join(a, b), r(0, -5, 18, 25)}, {Join(b, a), r(0, -5, 18, 25)}, {Join(a, a), a}, {Join(a, r(2, 3, 4, 5)), a}, {Join(r(1, 1, 1, 1), r(5, 7, 1, 1)), r(1, 1, 5, 7)},
		{Join(r(-9, -9, 2, 2), r(-3, -5, 1, 1)), r(-9, -9, 7, 5)},
		// An empty one adds nothing, whichever way it is empty.
		{Join(r(5, 0, 0, 0), b), b}, {Join(a, r(5, 0, -1, 5)), a}, {Join(a, r(50, 50, 5, 0)), a}, {Join(r(50, 50, 0, 5), a), a}, {Join(r(50, 50, 5, -1), a), a}, {Join(zero, b), b},
		{Join(r(5, 0, 0, 0), r(0, 5, 0, 0)), zero}, {Join(r(1, 2, 3, 0), r(4, 5, 0, 6)), zero}, {Join(r(1, 2, -3, 4), r(1, 2, -3, 4)), zero}, {Join(zero, zero), zero},
		// Beside an empty one the other one is as it was, beyond the limit too.
		{Join(r(5, 5, 0, 5), r(most+9, math.MinInt, math.MaxInt, most+9)), r(most+9, math.MinInt, math.MaxInt, most+9)}, {Join(r(most+9, 0, 1, 1), zero), r(most+9, 0, 1, 1)},
		// Beside one that is not empty it is cut.
		{Join(r(most-3, 0, 9, 9), a), r(0, 0, most, 20)}, {Join(r(-most, 0, 1, 1), r(most-1, 0, 1, 1)), r(-most, 0, most, 1)}, {Join(r(0, math.MinInt, 5, math.MaxInt), a), r(0, -most, 10, most)},
		// All of one that begins at the limit is beyond it: that way it adds nothing.
		{Join(r(most, 30, 5, 5), a), r(0, 0, 10, 35)}, {Join(r(most, 30, 5, 5), r(most, 40, 5, 5)), r(0, 30, 0, 15)},
	}.check(t)
}

func TestHas(t *testing.T) {
	a := r(2, 30, 3, 4)
	cases[bool]{
		{Has(a, p(2, 30)), true}, {Has(a, p(4, 33)), true}, {Has(a, p(3, 31)), true},
		{Has(a, p(1, 31)), false}, {Has(a, p(5, 31)), false}, {Has(a, p(3, 29)), false}, {Has(a, p(3, 34)), false}, {Has(a, p(31, 3)), false},
		{Has(r(-5, -5, 2, 2), p(-4, -5)), true}, {Has(r(-5, -5, 2, 2), p(-3, -5)), false}, {Has(r(-5, -5, 2, 2), p(-4, -3)), false},
		// An empty one has none.
		{Has(r(2, 30, 0, 4), p(2, 30)), false}, {Has(r(2, 30, 3, 0), p(2, 30)), false}, {Has(r(2, 30, -3, 4), p(0, 31)), false}, {Has(r(0, 0, 0, 0), 0), false},
		// The limit itself is in none.
		{Has(r(0, 0, most, most), p(most-1, most-1)), true}, {Has(r(0, 0, most, most), p(most, 0)), false}, {Has(r(most-1, 0, 9, 9), p(most-1, 8)), true}, {Has(r(most-1, 0, 9, 9), p(most, 8)), false},
		{Has(r(math.MinInt, 0, math.MaxInt, 1), p(-most, 0)), true}, {Has(r(math.MinInt, 0, math.MaxInt, 1), p(-1, 0)), true}, {Has(r(math.MinInt, 0, math.MaxInt, 1), 0), false},
		{Has(r(math.MaxInt, 0, math.MaxInt, 1), p(most, 0)), false},
	}.check(t)
}

// A point that is not Whole counts as 0, 0.
func TestHasOfNoWholePoint(t *testing.T) {
	for _, by := range notWhole() {
		if !Has(r(0, 0, 1, 1), by) || !Has(r(-5, -5, 9, 9), by) || Has(r(1, 1, 9, 9), by) || Has(r(-9, -9, 9, 9), by) {
			t.Errorf("%v is not at 0, 0", by)
		}
	}
}

func TestIn(t *testing.T) {
	b := r(2, 30, 10, 20)
	cases[bool]{
		{In(b, b), true}, {In(r(3, 31, 2, 2), b), true}, {In(r(2, 30, 1, 1), b), true}, {In(r(11, 49, 1, 1), b), true},
		{In(r(1, 31, 2, 2), b), false}, {In(r(11, 31, 2, 2), b), false}, {In(r(3, 29, 2, 2), b), false}, {In(r(3, 49, 2, 2), b), false}, {In(r(0, 0, 99, 99), b), false},
		{In(r(50, 31, 2, 2), b), false}, {In(r(3, 90, 2, 2), b), false}, {In(r(8, -5, 10, 10), r(0, 0, 10, 20)), false}, {In(r(8, 0, 2, 5), r(0, 0, 10, 20)), true},
		// An empty one is in all, wherever it is; in an empty one is nothing else.
		{In(r(99, 0, 0, 0), b), true}, {In(r(99, 99, 0, 5), b), true}, {In(r(99, 99, 5, 0), b), true}, {In(r(99, 99, -5, 5), b), true}, {In(r(99, 99, 5, -5), b), true},
		{In(r(0, 0, 0, 0), r(0, 0, 0, 0)), true}, {In(r(9, 9, 0, 9), r(0, 0, 0, 0)), true},
		{In(r(3, 31, 1, 1), r(3, 31, 0, 1)), false}, {In(r(3, 31, 1, 1), r(3, 31, 1, 0)), false}, {In(r(3, 31, 1, 1), r(0, 0, 0, 0)), false}, {In(r(3, 31, 1, 1), r(3, 31, -1, 9)), false},
		// What is beyond the limit is not there.
		{In(r(most-3, 0, 9, 9), r(0, 0, most, 9)), true}, {In(r(-9, 0, 5, 5), r(math.MinInt, 0, math.MaxInt, 5)), true}, {In(r(0, 0, 5, 5), r(math.MinInt, 0, math.MaxInt, 5)), false},
		{In(r(most+5, 3, 5, 5), r(0, 0, 10, 10)), true}, {In(r(most+5, 30, 5, 5), r(0, 0, 10, 10)), false},
	}.check(t)
}

func TestMove(t *testing.T) {
	a := r(0, 0, 10, 20)
	cases[api.Rect]{
		{Move(a, p(-3, 4)), r(-3, 4, 10, 20)}, {Move(r(5, 7, 1, 2), p(6, -9)), r(11, -2, 1, 2)}, {Move(a, 0), a},
		// An empty one is moved, too; how large it is stays, whatever it is.
		{Move(r(1, 2, 0, -4), p(3, 3)), r(4, 5, 0, -4)}, {Move(r(1, 2, math.MinInt, math.MaxInt), p(3, 3)), r(4, 5, math.MinInt, math.MaxInt)}, {Move(r(0, 0, 0, 0), p(3, 4)), r(3, 4, 0, 0)},
		{Move(r(5, -5, 1, 1), p(most, -most)), r(most, -most, 1, 1)}, {Move(r(5, -5, 1, 1), p(-most, most)), r(5-most, most-5, 1, 1)},
		// Where it begins is cut ahead.
		{Move(r(math.MaxInt, math.MinInt, 1, 1), p(-5, 5)), r(most-5, 5-most, 1, 1)}, {Move(r(most+1, -most-1, most+1, 1), 0), r(most, -most, most+1, 1)},
	}.check(t)
	for _, by := range notWhole() {
		if got := Move(r(3, 4, 5, 6), by); got != r(3, 4, 5, 6) {
			t.Errorf("moved by %v, which counts as nothing, it is %v", by, got)
		}
	}
}

// The sides are top, right, bottom, left.
func TestInset(t *testing.T) {
	a := r(0, 0, 10, 20)
	cases[api.Rect]{
		{Inset(a, [4]int{1, 2, 3, 4}), r(4, 1, 4, 16)}, {Inset(a, [4]int{}), a}, {Inset(r(-7, -8, 10, 20), [4]int{1, 2, 3, 4}), r(-3, -7, 4, 16)},
		{Inset(a, [4]int{5, 0, 0, 0}), r(0, 5, 10, 15)}, {Inset(a, [4]int{0, 5, 0, 0}), r(0, 0, 5, 20)}, {Inset(a, [4]int{0, 0, 5, 0}), r(0, 0, 10, 15)}, {Inset(a, [4]int{0, 0, 0, 5}), r(5, 0, 5, 20)},
		// It is not below 0, but begins as far on as the sides tell.
		{Inset(a, [4]int{0, 20, 0, 0}), r(0, 0, 0, 20)}, {Inset(a, [4]int{0, 0, 21, 0}), r(0, 0, 10, 0)}, {Inset(a, [4]int{20, 0, 0, 10}), r(10, 20, 0, 0)}, {Inset(a, [4]int{30, 7, 0, 30}), r(30, 30, 0, 0)},
		{Inset(a, [4]int{0, 5, 0, 5}), r(5, 0, 0, 20)}, {Inset(a, [4]int{0, 6, 0, 5}), r(5, 0, 0, 20)}, {Inset(r(1, 2, -3, -4), [4]int{}), r(1, 2, 0, 0)},
		// A side below 0 is one that comes to it.
		{Inset(a, [4]int{-1, -2, -3, -4}), r(-4, -1, 16, 24)}, {Inset(a, [4]int{0, 15, 0, -15}), r(-15, 0, 10, 20)}, {Inset(a, [4]int{25, 0, -25, 0}), r(0, 25, 10, 20)}, {Inset(r(0, 0, -3, 5), [4]int{0, -5, 0, 0}), r(0, 0, 2, 5)},
		{Inset(a, [4]int{most, 0, 0, most}), r(most, most, 0, 0)}, {Inset(a, [4]int{math.MaxInt, math.MaxInt, math.MaxInt, math.MaxInt}), r(most, most, 0, 0)},
		{Inset(a, [4]int{math.MinInt, math.MinInt, math.MinInt, math.MinInt}), r(-most, -most, most, most)},
		{Inset(r(most+5, math.MinInt, most+5, math.MaxInt), [4]int{1, 0, 0, -1}), r(most-1, 1-most, most, most-1)}, {Inset(r(math.MaxInt, math.MinInt, math.MaxInt, math.MinInt), [4]int{}), r(most, -most, most, 0)},
		// It is less by both together: it does not matter which one would be ahead.
		{Inset(a, [4]int{0, -most, 0, most}), r(most, 0, 10, 20)}, {Inset(a, [4]int{0, most, 0, -most}), r(-most, 0, 10, 20)}, {Inset(a, [4]int{most, 0, -most, 0}), r(0, most, 10, 20)}, {Inset(a, [4]int{-most, 0, most, 0}), r(0, -most, 10, 20)},
	}.check(t)
}

func TestOutset(t *testing.T) {
	a := r(0, 0, 10, 20)
	cases[api.Rect]{
		{Outset(a, [4]int{1, 2, 3, 4}), r(-4, -1, 16, 24)}, {Outset(a, [4]int{}), a}, {Outset(r(7, 8, 10, 20), [4]int{1, 2, 3, 4}), r(3, 7, 16, 24)},
		{Outset(a, [4]int{5, 0, 0, 0}), r(0, -5, 10, 25)}, {Outset(a, [4]int{0, 5, 0, 0}), r(0, 0, 15, 20)}, {Outset(a, [4]int{0, 0, 5, 0}), r(0, 0, 10, 25)}, {Outset(a, [4]int{0, 0, 0, 5}), r(-5, 0, 15, 20)},
		// It is not below 0 either.
		{Outset(a, [4]int{-1, -2, -3, -4}), r(4, 1, 4, 16)}, {Outset(a, [4]int{0, -20, 0, 0}), r(0, 0, 0, 20)}, {Outset(a, [4]int{0, 0, -21, 0}), r(0, 0, 10, 0)}, {Outset(a, [4]int{-20, 0, 0, -10}), r(10, 20, 0, 0)},
		{Outset(r(1, 2, -3, -4), [4]int{}), r(1, 2, 0, 0)}, {Outset(r(1, 2, -3, -4), [4]int{3, 2, 3, 2}), r(-1, -1, 1, 2)}, {Outset(a, [4]int{0, 15, 0, -15}), r(15, 0, 10, 20)},
		{Outset(a, [4]int{math.MaxInt, math.MaxInt, math.MaxInt, math.MaxInt}), r(-most, -most, most, most)},
		{Outset(a, [4]int{math.MinInt, math.MinInt, math.MinInt, math.MinInt}), r(most, most, 0, 0)}, {Outset(a, [4]int{most, 0, 0, most}), r(-most, -most, most, most)},
		{Outset(r(most+5, math.MinInt, most+5, math.MaxInt), [4]int{-1, 0, 0, 1}), r(most-1, 1-most, most, most-1)},
		{Outset(a, [4]int{0, -most, 0, most}), r(-most, 0, 10, 20)}, {Outset(a, [4]int{0, most, 0, -most}), r(most, 0, 10, 20)}, {Outset(a, [4]int{most, 0, -most, 0}), r(0, -most, 10, 20)}, {Outset(a, [4]int{-most, 0, most, 0}), r(0, most, 10, 20)},
	}.check(t)
}

// At all arguments the calls that make one, or its spans, end, and are what
// their sentences tell.
func TestMakingAtAllArguments(t *testing.T) {
	for _, a := range stretches() {
		for _, b := range stretches() {
			one := r(a[0], b[0], a[1], b[1])
			if got, want := Of(a[0], b[0], a[1], b[1]), r(cut(a[0]), cut(b[0]), max(cut(a[1]), 0), max(cut(b[1]), 0)); got != want {
				t.Errorf("Of(%d) = %d, want %d", one, got, want)
			}
			if Across(one) != wantSpan(a[0], a[1]) || Down(one) != wantSpan(b[0], b[1]) {
				t.Errorf("%d: across %d, down %d", one, Across(one), Down(one))
			}
			x, y := s(a[0], a[1]), s(b[0], b[1])
			if got, want := By(x, y), r(x.Lo, y.Lo, wantSize(x), wantSize(y)); got != want {
				t.Errorf("By(%d, %d) = %d, want %d", x, y, got, want)
			}
		}
	}
}

// At all arguments the calls with a point end, and are what their sentences tell.
func TestPointsAtAllArguments(t *testing.T) {
	for _, a := range manyRects() {
		across, down := wantSpan(a.X, a.W), wantSpan(a.Y, a.H)
		check := func(at complex128, x, y int) {
			if got, want := Has(a, at), across.Lo <= x && x < across.Hi && down.Lo <= y && y < down.Hi; got != want {
				t.Errorf("Has(%d, %v) = %t", a, at, got)
			}
			if got, want := Move(a, at), r(cut(cut(a.X)+x), cut(cut(a.Y)+y), a.W, a.H); got != want {
				t.Errorf("Move(%d, %v) = %d, want %d", a, at, got, want)
			}
		}
		for _, x := range numbers() {
			for _, y := range numbers() {
				if cut(x) == x && cut(y) == y {
					check(p(x, y), x, y)
				} else {
					check(p(x, y), 0, 0)
				}
			}
		}
		for _, at := range notWhole() {
			check(at, 0, 0)
		}
	}
}

// At all arguments the sides are taken, or added, as their sentences tell, and
// each way by itself.
func TestSidesAtAllArguments(t *testing.T) {
	for _, a := range stretches() {
		for _, begin := range numbers() {
			for _, end := range numbers() {
				by, size := cut(cut(begin)+cut(end)), cut(a[1])
				in := [2]int{cut(cut(a[0]) + cut(begin)), max(cut(size-by), 0)}
				out := [2]int{cut(cut(a[0]) - cut(begin)), max(cut(size+by), 0)}
				across, down := r(a[0], 30, a[1], 40), r(30, a[0], 40, a[1])
				sidesAcross, sidesDown := [4]int{1, end, 2, begin}, [4]int{begin, 1, end, 2}
				cases[api.Rect]{
					{Inset(across, sidesAcross), r(in[0], 31, in[1], 37)}, {Inset(down, sidesDown), r(32, in[0], 37, in[1])},
					{Outset(across, sidesAcross), r(out[0], 29, out[1], 43)}, {Outset(down, sidesDown), r(28, out[0], 43, out[1])},
				}.check(t)
			}
		}
	}
}

// wantMeet is by the document's words, both ways.
func wantMeet(a, b api.Rect) api.Rect {
	ax, ay, bx, by := wantSpan(a.X, a.W), wantSpan(a.Y, a.H), wantSpan(b.X, b.W), wantSpan(b.Y, b.H)
	x, y := s(max(ax.Lo, bx.Lo), min(ax.Hi, bx.Hi)), s(max(ay.Lo, by.Lo), min(ay.Hi, by.Hi))
	if x.Hi <= x.Lo || y.Hi <= y.Lo {
		return api.Rect{}
	}
	return r(x.Lo, y.Lo, wantSize(x), wantSize(y))
}

// wantAround is from the lesser end to the greater one; an empty one adds nothing.
func wantAround(a, b api.Span) api.Span {
	switch {
	case a.Hi <= a.Lo && b.Hi <= b.Lo:
		return api.Span{}
	case a.Hi <= a.Lo:
		return b
	case b.Hi <= b.Lo:
		return a
	}
	return s(min(a.Lo, b.Lo), max(a.Hi, b.Hi))
}

func wantJoin(a, b api.Rect) api.Rect {
	switch {
	case isEmpty(a) && isEmpty(b):
		return api.Rect{}
	case isEmpty(a):
		return b
	case isEmpty(b):
		return a
	}
	x, y := wantAround(wantSpan(a.X, a.W), wantSpan(b.X, b.W)), wantAround(wantSpan(a.Y, a.H), wantSpan(b.Y, b.H))
	return r(x.Lo, y.Lo, wantSize(x), wantSize(y))
}

func wantIn(a, b api.Rect) bool {
	in := func(a, b api.Span) bool { return a.Hi <= a.Lo || a.Lo >= b.Lo && a.Hi <= b.Hi }
	return isEmpty(a) || in(wantSpan(a.X, a.W), wantSpan(b.X, b.W)) && in(wantSpan(a.Y, a.H), wantSpan(b.Y, b.H))
}

// At all arguments the calls of two end, and are what their sentences tell; what
// both have is in both.
func TestCallsOfTwoAtAllArguments(t *testing.T) {
	l := append(manyRects(), smallRects()...)
	for _, a := range l {
		for _, b := range l {
			if got, want := Meet(a, b), wantMeet(a, b); got != want {
				t.Errorf("Meet(%d, %d) = %d, want %d", a, b, got, want)
			}
			if got, want := Join(a, b), wantJoin(a, b); got != want {
				t.Errorf("Join(%d, %d) = %d, want %d", a, b, got, want)
			}
			if got := In(a, b); got != wantIn(a, b) {
				t.Errorf("In(%d, %d) = %t", a, b, got)
			}
			if both := Meet(a, b); !In(both, a) || !In(both, b) {
				t.Errorf("Meet(%d, %d) = %d: it is not in both", a, b, both)
			}
		}
	}
}

// Of small rectangles all points are gone through: what both have is in both,
// and what one has is in what has both.
func TestSmallRectsByTheirPoints(t *testing.T) {
	for _, a := range smallRects() {
		for _, b := range smallRects() {
			meet, join, in := Meet(a, b), Join(a, b), true
			for x := -2; x <= 5; x++ {
				for y := -2; y <= 4; y++ {
					at := p(x, y)
					if Has(meet, at) != (Has(a, at) && Has(b, at)) {
						t.Errorf("Meet(%d, %d) = %d: has %v: %t", a, b, meet, at, Has(meet, at))
					}
					if (Has(a, at) || Has(b, at)) && !Has(join, at) {
						t.Errorf("Join(%d, %d) = %d: has not %v", a, b, join, at)
					}
					in = in && (!Has(a, at) || Has(b, at))
				}
			}
			if In(a, b) != in {
				t.Errorf("In(%d, %d) = %t", a, b, In(a, b))
			}
			joinTouches(t, a, b, join)
		}
	}
}

// joinTouches fails, if what has both goes further than they do.
func joinTouches(t *testing.T, a, b, join api.Rect) {
	t.Helper()
	if isEmpty(join) {
		return
	}
	touch := map[string]bool{}
	for _, one := range []api.Rect{a, b} {
		if !isEmpty(one) {
			touch["left"] = touch["left"] || one.X == join.X
			touch["top"] = touch["top"] || one.Y == join.Y
			touch["right"] = touch["right"] || one.X+one.W == join.X+join.W
			touch["bottom"] = touch["bottom"] || one.Y+one.H == join.Y+join.H
		}
	}
	for _, side := range []string{"left", "top", "right", "bottom"} {
		if !touch[side] {
			t.Errorf("Join(%d, %d) = %d: goes further %s", a, b, join, side)
		}
	}
}

// Inset, and outset, and the other way round, it is as it was, if nothing came
// to 0, and nothing was cut.
func TestInsetAndOutset(t *testing.T) {
	few := []int{-9, -1, 0, 1, 4, 640}
	for _, a := range []api.Rect{r(0, 0, 10, 20), r(-7, 8, 1, 1), r(5, -6, 700, 2000), r(most/2, -most/2, most/2, 3)} {
		for _, top := range few {
			for _, right := range few {
				for _, bottom := range few {
					for _, left := range few {
						sides := [4]int{top, right, bottom, left}
						if in := Inset(a, sides); !isEmpty(in) && Outset(in, sides) != a {
							t.Errorf("%d, inset by %d, is %d; outset %d", a, sides, in, Outset(in, sides))
						}
						if out := Outset(a, sides); !isEmpty(out) && Inset(out, sides) != a {
							t.Errorf("%d, outset by %d, is %d; inset %d", a, sides, out, Inset(out, sides))
						}
					}
				}
			}
		}
	}
}
