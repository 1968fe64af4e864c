package span

import (
	"math"
	"testing"

	"valance/api"
)

const most = api.Most

func s(lo, hi int) api.Span { return api.Span{Lo: lo, Hi: hi} }

// numbers are those about which something changes: nothing, a few, the limit,
// and the ends of what an int can be.
func numbers() []int {
	l := []int{math.MinInt, math.MinInt + 1, math.MaxInt - 1, math.MaxInt}
	for _, n := range []int{0, 1, 2, 640, 1 << 32, most / 2, most - 1, most, most + 1, 1 << 62} {
		l = append(l, n, -n)
	}
	return l
}

// spansOf are all of those numbers, most of them ordinary ones, or empty ones.
func spansOf(numbers []int) []api.Span {
	l := []api.Span{}
	for _, lo := range numbers {
		for _, hi := range numbers {
			l = append(l, s(lo, hi))
		}
	}
	return l
}

// smallNumbers are so few that all may be gone through.
func smallNumbers() []int {
	return []int{-3, -2, -1, 0, 1, 2, 3, 4}
}

// cut is written out here, so that it is the limit's own words that are held
// against what comes.
func cut(n int) int {
	if n > 1<<40 {
		return 1 << 40
	}
	if n < -1<<40 {
		return -1 << 40
	}
	return n
}

// isEmpty is by the document's words: Hi is not above Lo.
func isEmpty(a api.Span) bool {
	return !(a.Hi > a.Lo)
}

// cases are what calls came to, beside what they should have.
type cases[T comparable] []struct{ got, want T }

func (l cases[T]) check(t *testing.T) {
	t.Helper()
	for i, x := range l {
		if x.got != x.want {
			t.Errorf("case %d: %v, want %v", i, x.got, x.want)
		}
	}
}

func TestOf(t *testing.T) {
	cases[api.Span]{
		{Of(3, 4), s(3, 7)}, {Of(-3, 4), s(-3, 1)}, {Of(0, 0), s(0, 0)}, {Of(3, 0), s(3, 3)}, {Of(-7, 1), s(-7, -6)},
		// A size below 0 is one of 0.
		{Of(3, -1), s(3, 3)}, {Of(3, -4), s(3, 3)}, {Of(-3, math.MinInt), s(-3, -3)}, {Of(most, -5), s(most, most)},
		{Of(most, 0), s(most, most)}, {Of(most, 5), s(most, most)}, {Of(most-3, 5), s(most-3, most)}, {Of(0, most+1), s(0, most)},
		{Of(-5, most+9), s(-5, most-5)}, {Of(-most, math.MaxInt), s(-most, 0)}, {Of(-most, most), s(-most, 0)},
		// Where it begins is cut, and it ends by what is cut.
		{Of(most+7, 5), s(most, most)}, {Of(-most-7, 5), s(-most, 5-most)}, {Of(math.MinInt, 0), s(-most, -most)},
		{Of(math.MaxInt, math.MaxInt), s(most, most)}, {Of(math.MinInt, math.MaxInt), s(-most, 0)}, {Of(math.MinInt, math.MinInt), s(-most, -most)},
	}.check(t)
}

func TestSize(t *testing.T) {
	cases[int]{
		{Size(s(3, 7)), 4}, {Size(s(-3, 7)), 10}, {Size(s(-7, -3)), 4}, {Size(s(0, 0)), 0}, {Size(s(5, 5)), 0}, {Size(s(5, 6)), 1},
		{Size(s(7, 2)), 0}, {Size(s(6, 5)), 0}, {Size(s(most, -most)), 0}, {Size(s(math.MaxInt, math.MinInt)), 0},
		{Size(s(0, most)), most}, {Size(s(0, most-1)), most - 1}, {Size(s(-1, most)), most}, {Size(s(-most, most)), most},
		{Size(s(math.MinInt, math.MaxInt)), most}, {Size(s(most-3, math.MaxInt)), 3}, {Size(s(math.MinInt, 3-most)), 3},
		{Size(s(most+1, most+9)), 0}, {Size(s(math.MinInt, -most)), 0},
	}.check(t)
}

func TestMeet(t *testing.T) {
	cases[api.Span]{
		{Meet(s(0, 5), s(3, 9)), s(3, 5)}, {Meet(s(0, 9), s(3, 5)), s(3, 5)}, {Meet(s(-9, -3), s(-5, 2)), s(-5, -3)}, {Meet(s(2, 4), s(2, 4)), s(2, 4)},
		{Meet(s(0, 4), s(3, 9)), s(3, 4)},
		// What is empty is a zero one, wherever it would be.
		{Meet(s(0, 3), s(3, 9)), s(0, 0)}, {Meet(s(1, 2), s(7, 9)), s(0, 0)}, {Meet(s(-9, -7), s(-3, -1)), s(0, 0)},
		{Meet(s(5, 1), s(0, 9)), s(0, 0)}, {Meet(s(5, 5), s(0, 9)), s(0, 0)}, {Meet(s(0, 9), s(7, 6)), s(0, 0)}, {Meet(s(5, 5), s(5, 5)), s(0, 0)},
		{Meet(s(9, 2), s(8, 3)), s(0, 0)},
		// Ends are taken as they are.
		{Meet(s(-most, most), s(most-1, math.MaxInt)), s(most-1, most)}, {Meet(s(math.MinInt, math.MaxInt), s(most+1, most+9)), s(most+1, most+9)},
		{Meet(s(math.MinInt, 0), s(0, math.MaxInt)), s(0, 0)}, {Meet(s(math.MaxInt, math.MinInt), s(math.MinInt, math.MaxInt)), s(0, 0)},
	}.check(t)
}

func TestJoin(t *testing.T) {
	cases[api.Span]{
		{Join(s(0, 1), s(5, 6)), s(0, 6)}, {Join(s(0, 9), s(3, 5)), s(0, 9)}, {Join(s(0, 5), s(3, 9)), s(0, 9)}, {Join(s(-9, -3), s(-5, 2)), s(-9, 2)},
		{Join(s(2, 4), s(2, 4)), s(2, 4)}, {Join(s(0, 3), s(3, 9)), s(0, 9)},
		// An empty one adds nothing, wherever it is.
		{Join(s(9, 9), s(5, 6)), s(5, 6)}, {Join(s(5, 6), s(9, 2)), s(5, 6)}, {Join(s(5, 6), s(0, 0)), s(5, 6)}, {Join(s(2, -2), s(-6, -5)), s(-6, -5)},
		{Join(s(0, -most), s(1, 2)), s(1, 2)},
		{Join(s(9, 2), s(7, 7)), s(0, 0)}, {Join(s(5, 5), s(5, 5)), s(0, 0)}, {Join(s(0, 0), s(7, 3)), s(0, 0)}, {Join(s(5, 5), s(8, 8)), s(0, 0)},
		// Ends are taken as they are.
		{Join(s(-most-1, 0), s(3, most+9)), s(-most-1, most+9)}, {Join(s(math.MinInt, -7), s(7, math.MaxInt)), s(math.MinInt, math.MaxInt)},
		{Join(s(math.MaxInt, math.MinInt), s(most+1, most+2)), s(most+1, most+2)},
	}.check(t)
}

func TestHas(t *testing.T) {
	cases[bool]{
		{Has(s(2, 5), 1), false}, {Has(s(2, 5), 2), true}, {Has(s(2, 5), 3), true}, {Has(s(2, 5), 4), true}, {Has(s(2, 5), 5), false}, {Has(s(2, 5), 6), false},
		{Has(s(-5, -2), -5), true}, {Has(s(-5, -2), -2), false}, {Has(s(-5, -2), 3), false}, {Has(s(2, 3), 2), true},
		{Has(s(5, 5), 5), false}, {Has(s(0, 0), 0), false}, {Has(s(7, 2), 5), false}, {Has(s(7, 2), 7), false}, {Has(s(7, 2), 2), false},
		// A number is taken as it is: one that is beyond the limit is not at it.
		{Has(s(0, most), most), false}, {Has(s(0, most), most-1), true}, {Has(s(-most, 0), math.MinInt), false}, {Has(s(-most, 0), -most), true},
		{Has(s(most, most+9), most+3), true}, {Has(s(math.MinInt, math.MaxInt), math.MinInt), true}, {Has(s(math.MinInt, math.MaxInt), math.MaxInt), false},
		{Has(s(math.MaxInt, math.MinInt), 0), false},
	}.check(t)
}

func TestIn(t *testing.T) {
	cases[bool]{
		{In(s(2, 4), s(1, 5)), true}, {In(s(1, 5), s(1, 5)), true}, {In(s(1, 4), s(1, 5)), true}, {In(s(2, 5), s(1, 5)), true},
		{In(s(1, 4), s(2, 5)), false}, {In(s(3, 6), s(2, 5)), false}, {In(s(1, 9), s(2, 5)), false}, {In(s(7, 9), s(2, 5)), false}, {In(s(-2, 0), s(2, 5)), false},
		{In(s(4, 6), s(1, 5)), false}, {In(s(0, 1), s(1, 5)), false},
		// An empty one is in all, wherever it is; in an empty one is nothing else.
		{In(s(7, 2), s(0, 0)), true}, {In(s(9, 9), s(1, 5)), true}, {In(s(7, 2), s(9, 3)), true}, {In(s(0, 0), s(5, 6)), true}, {In(s(1, 2), s(5, 5)), false},
		{In(s(1, 2), s(2, 1)), false}, {In(s(1, 2), s(0, 0)), false},
		// Ends are taken as they are.
		{In(s(0, most+1), s(0, most)), false}, {In(s(0, most), s(0, most+1)), true}, {In(s(-most-1, 0), s(-most, 0)), false},
		{In(s(0, 1), s(math.MinInt, math.MaxInt)), true}, {In(s(math.MinInt, math.MaxInt), s(-most, most)), false},
		{In(s(math.MinInt, math.MaxInt), s(math.MinInt, math.MaxInt)), true},
	}.check(t)
}

func TestMove(t *testing.T) {
	cases[api.Span]{
		{Move(s(1, 2), -5), s(-4, -3)}, {Move(s(1, 2), 5), s(6, 7)}, {Move(s(1, 2), 0), s(1, 2)}, {Move(s(-9, 9), 4), s(-5, 13)},
		// An empty one is moved, too.
		{Move(s(5, 5), 3), s(8, 8)}, {Move(s(7, 2), -3), s(4, -1)}, {Move(s(0, 0), 3), s(3, 3)},
		// Each end is cut by itself.
		{Move(s(0, 9), most-5), s(most-5, most)}, {Move(s(0, 9), most), s(most, most)}, {Move(s(-9, 0), -most), s(-most, -most)}, {Move(s(-9, 3), 5-most), s(-most, 8-most)},
		{Move(s(1, 2), math.MaxInt), s(most, most)}, {Move(s(-3, -2), math.MaxInt), s(most-3, most-2)}, {Move(s(3, 4), math.MinInt), s(3-most, 4-most)},
		{Move(s(math.MinInt, math.MaxInt), 0), s(-most, most)}, {Move(s(math.MinInt, math.MaxInt), 5), s(5-most, most)}, {Move(s(most+9, most+9), -1), s(most-1, most-1)},
	}.check(t)
}

func TestFit(t *testing.T) {
	port := s(0, 10)
	cases[int]{
		{Fit(s(8, 12), port), -2}, {Fit(s(-3, 2), port), 3}, {Fit(s(20, 25), port), -15}, {Fit(s(-25, -20), port), 25}, {Fit(s(-8, -2), s(-20, -5)), -3},
		// What is within stays, at both ends.
		{Fit(s(2, 5), port), 0}, {Fit(s(0, 10), port), 0}, {Fit(s(0, 4), port), 0}, {Fit(s(6, 10), port), 0}, {Fit(s(-1, 9), port), 1}, {Fit(s(1, 11), port), -1},
		// What is too long begins where the other one begins.
		{Fit(s(5, 30), port), -5}, {Fit(s(-5, 30), port), 5}, {Fit(s(-30, 5), port), 30}, {Fit(s(0, 11), port), 0}, {Fit(s(5, 16), port), -5}, {Fit(s(1, 12), port), -1},
		// What is as long as the other one fits it whole.
		{Fit(s(5, 15), port), -5}, {Fit(s(-5, 5), port), 5},
		// An empty one is moved by the same words.
		{Fit(s(12, 12), port), -2}, {Fit(s(-4, -4), port), 4}, {Fit(s(10, 10), port), 0}, {Fit(s(0, 0), port), 0}, {Fit(s(20, 15), port), -5}, {Fit(s(15, 5), port), 0},
		{Fit(s(-2, -9), port), 2}, {Fit(s(3, 7), s(5, 5)), 2}, {Fit(s(7, 9), s(5, 5)), -2}, {Fit(s(7, 7), s(5, 5)), -2}, {Fit(s(7, 9), s(5, 1)), -2}, {Fit(s(9, 7), s(5, 1)), -6},
		// Ends are compared as they are; what is told is cut.
		{Fit(s(-most, 0), s(5, most)), most}, {Fit(s(-most, -most+5), s(most-10, most)), most}, {Fit(s(most-5, most), s(-most, 0)), -most},
		{Fit(s(0, most+5), s(0, most)), 0}, {Fit(s(1, most+5), s(0, most)), 0}, {Fit(s(3, most+1), s(0, most)), 0}, {Fit(s(0, most), s(0, most+5)), 0},
		{Fit(s(0, 5), s(math.MinInt, math.MaxInt)), 0}, {Fit(s(math.MinInt, math.MaxInt), s(0, 5)), most}, {Fit(s(math.MinInt, math.MaxInt), s(-most, most)), 0},
		{Fit(s(math.MinInt, 0), s(math.MinInt+1, 9)), 0}, {Fit(s(math.MaxInt, math.MinInt), s(0, 5)), 0}, {Fit(s(math.MinInt, math.MinInt), s(0, 5)), most},
	}.check(t)
}

func TestNear(t *testing.T) {
	cases[int]{
		{Near(s(2, 5), 0), 2}, {Near(s(2, 5), 2), 2}, {Near(s(2, 5), 3), 3}, {Near(s(2, 5), 4), 4}, {Near(s(2, 5), 5), 5}, {Near(s(2, 5), 9), 5}, {Near(s(-5, -2), 0), -2}, {Near(s(-5, -2), -9), -5},
		// Of an empty one it is where it begins.
		{Near(s(5, 5), 0), 5}, {Near(s(5, 5), 9), 5}, {Near(s(7, 2), 5), 7}, {Near(s(7, 2), 0), 7}, {Near(s(7, 2), 9), 7}, {Near(s(0, 0), 3), 0},
		{Near(s(0, most+5), math.MaxInt), most}, {Near(s(-most-5, 0), math.MinInt), -most}, {Near(s(most+1, most+9), 0), most}, {Near(s(math.MinInt, -most-1), 0), -most},
		{Near(s(math.MinInt, math.MaxInt), 7), 7}, {Near(s(math.MinInt, math.MaxInt), math.MaxInt), most}, {Near(s(math.MaxInt, math.MinInt), 0), most},
	}.check(t)
}

// wantFit is the document's sentence, by arithmetic that the limit leaves room for.
func wantFit(a, in api.Span) int {
	if a.Lo >= in.Lo && a.Hi <= in.Hi {
		return 0
	}
	if a.Lo < in.Lo || wantSize(a) > wantSize(in) {
		return cut(cut(in.Lo) - cut(a.Lo))
	}
	return cut(cut(in.Hi) - cut(a.Hi))
}

func wantSize(a api.Span) int {
	if n := cut(cut(a.Hi) - cut(a.Lo)); n > 0 {
		return n
	}
	return 0
}

// At all arguments the calls of one end, and are what their sentences tell.
func TestCallsOfOneAtAllArguments(t *testing.T) {
	for _, a := range spansOf(numbers()) {
		if got := Size(a); got != wantSize(a) {
			t.Errorf("Size(%d) = %d, want %d", a, got, wantSize(a))
		}
		for _, n := range numbers() {
			if got, want := Has(a, n), !(n < a.Lo) && n < a.Hi; got != want {
				t.Errorf("Has(%d, %d) = %t, want %t", a, n, got, want)
			}
			if got, want := Near(a, n), max(cut(a.Lo), min(cut(n), cut(a.Hi))); got != want {
				t.Errorf("Near(%d, %d) = %d, want %d", a, n, got, want)
			}
			if got, want := Move(a, n), s(cut(cut(a.Lo)+cut(n)), cut(cut(a.Hi)+cut(n))); got != want {
				t.Errorf("Move(%d, %d) = %d, want %d", a, n, got, want)
			}
		}
	}
	for _, at := range numbers() {
		for _, size := range numbers() {
			if got, want := Of(at, size), s(cut(at), cut(cut(at)+cut(max(size, 0)))); got != want {
				t.Errorf("Of(%d, %d) = %d, want %d", at, size, got, want)
			}
		}
	}
}

// At all arguments the calls of two end, and are what their sentences tell; and
// meeting and joining don't matter in which order.
func TestCallsOfTwoAtAllArguments(t *testing.T) {
	l := spansOf(numbers())
	for _, a := range l {
		for _, b := range l {
			if got, want := Fit(a, b), wantFit(a, b); got != want {
				t.Errorf("Fit(%d, %d) = %d, want %d", a, b, got, want)
			}
			if got, want := In(a, b), isEmpty(a) || a.Lo >= b.Lo && a.Hi <= b.Hi; got != want {
				t.Errorf("In(%d, %d) = %t, want %t", a, b, got, want)
			}
			if Meet(a, b) != Meet(b, a) || Join(a, b) != Join(b, a) {
				t.Errorf("%d and %d: the other way round they are not the same", a, b)
			}
			meetsAndJoins(t, a, b, numbers())
		}
	}
}

// meetsAndJoins fails, if Meet has not just the numbers that both have, if Join
// has not all of both, or goes further than they do, or if one that is empty is
// not a zero one.
func meetsAndJoins(t *testing.T, a, b api.Span, numbers []int) {
	t.Helper()
	meet, join := Meet(a, b), Join(a, b)
	if isEmpty(meet) && meet != s(0, 0) || isEmpty(join) && join != s(0, 0) {
		t.Errorf("%d and %d: Meet %d, Join %d: an empty one is not a zero one", a, b, meet, join)
	}
	for _, n := range numbers {
		inA, inB := Has(a, n), Has(b, n)
		if Has(meet, n) != (inA && inB) {
			t.Errorf("Meet(%d, %d) = %d: has %d: %t", a, b, meet, n, Has(meet, n))
		}
		if (inA || inB) && !Has(join, n) {
			t.Errorf("Join(%d, %d) = %d: has not %d", a, b, join, n)
		}
	}
	for _, end := range []int{join.Lo, join.Hi - 1} {
		if !isEmpty(join) && !Has(a, end) && !Has(b, end) {
			t.Errorf("Join(%d, %d) = %d: goes as far as %d", a, b, join, end)
		}
	}
}

// Of three it doesn't matter, either, which two come first.
func TestMeetAndJoinOfThree(t *testing.T) {
	few := []int{math.MinInt, -most, -1, 0, 2, 3, most + 1, math.MaxInt}
	l := spansOf(few)
	for _, a := range l {
		for _, b := range l {
			for _, c := range l {
				if Meet(Meet(a, b), c) != Meet(a, Meet(b, c)) || Join(Join(a, b), c) != Join(a, Join(b, c)) {
					t.Fatalf("%d, %d, %d: in another order they are not the same", a, b, c)
				}
			}
		}
	}
}

// Of small spans all numbers are gone through.
func TestSmallSpansByTheirNumbers(t *testing.T) {
	l := spansOf(smallNumbers())
	for _, a := range l {
		count := 0
		for n := -5; n <= 6; n++ {
			if Has(a, n) {
				count++
			}
		}
		if Size(a) != count {
			t.Errorf("Size(%d) = %d, but it has %d numbers", a, Size(a), count)
		}
		for _, b := range l {
			meetsAndJoins(t, a, b, smallNumbers())
			fits(t, a, b)
		}
	}
}

// fits fails, if a, fitted in b, is not within it though it can be, or moved
// further than it must be.
func fits(t *testing.T, a, b api.Span) {
	t.Helper()
	least, can := 0, false
	for by := -20; by <= 20; by++ {
		ends := a.Lo+by >= b.Lo && a.Hi+by <= b.Hi
		if ends && (!can || max(by, -by) < max(least, -least)) {
			least, can = by, true
		}
	}
	by := Fit(a, b)
	if can && (by != least || !In(Move(a, by), b)) {
		t.Errorf("Fit(%d, %d) = %d, but it is within, moved by %d", a, b, by, least)
	}
	if !isEmpty(a) && Size(a) > Size(b) && Move(a, by).Lo != b.Lo {
		t.Errorf("Fit(%d, %d) = %d, but it is too long, and must begin at %d", a, b, by, b.Lo)
	}
}

// What is fitted is within, and as long as it was, if it can be: of all spans
// between whose ends no distance is beyond the limit.
func TestFittedIsWithin(t *testing.T) {
	l := spansOf([]int{-most / 2, 1 - most/2, -640, -1, 0, 1, 640, most/2 - 1, most / 2})
	for _, a := range l {
		for _, b := range l {
			if a.Hi-a.Lo > b.Hi-b.Lo {
				continue
			}
			fitted := Move(a, Fit(a, b))
			if fitted.Lo < b.Lo || fitted.Hi > b.Hi || fitted.Hi-fitted.Lo != a.Hi-a.Lo {
				t.Errorf("%d, fitted in %d, is %d", a, b, fitted)
			}
		}
	}
}
