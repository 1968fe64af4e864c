package length

import (
	"math"
	"testing"

	"valance/api"
)

const most = api.Most

func px(n int) api.Len { return api.Len{Kind: api.Px, N: n} }

func per(n int) api.Len { return api.Len{Kind: api.Per, N: n} }

func auto() api.Len { return api.Len{} }

// other is of any Kind, and of any N, whether or not that kind may have it.
func other(kind api.LenKind, n int) api.Len { return api.Len{Kind: kind, N: n} }

// numbers are those about which something changes: nothing, a few, the parts'
// bounds, the limit, and the ends of what an int can be.
func numbers() []int {
	l := []int{math.MinInt, math.MinInt + 1, math.MaxInt}
	for _, n := range []int{0, 1, 7, 640, 2500, api.Whole, 999999, 1000000, 1000001, most - 1, most, most + 1} {
		l = append(l, n, -n)
	}
	return l
}

// lengths are of each kind, and of such as there are none, and of all numbers.
func lengths() []api.Len {
	l := []api.Len{}
	for _, kind := range []api.LenKind{api.Auto, api.Px, api.Per, 3, 9, -1, math.MaxInt, math.MinInt} {
		for _, n := range numbers() {
			l = append(l, other(kind, n))
		}
	}
	return l
}

// cut is written out here, so that it is the limit's own words that are held
// against what comes.
func cut(n int) int {
	if n > 1<<40 {
		return 1 << 40
	}
	if n < -1<<40 {
		return -1 << 40
	}
	return n
}

// wantOf is by the document's words, and says besides whether it is fixed. An
// int has room for the product of the limit and all parts.
func wantOf(l api.Len, base, none int) (int, bool) {
	if l.Kind == 1 {
		return cut(l.N), true
	}
	if l.Kind == 2 && base >= 0 {
		parts := l.N
		if parts < 0 {
			parts = 0
		}
		if parts > 1000000 {
			parts = 1000000
		}
		return cut(cut(base) * parts / 10000), true
	}
	return cut(none), false
}

func wantLimit(n int, low, high api.Len, base int) int {
	n = cut(n)
	if end, fixed := wantOf(high, base, 0); fixed && n > end {
		n = end
	}
	if end, fixed := wantOf(low, base, 0); fixed && n < end {
		n = end
	}
	if n < 0 {
		n = 0
	}
	return n
}

// cases are what calls came to, beside what they should have.
type cases[T comparable] []struct{ got, want T }

func (l cases[T]) check(t *testing.T) {
	t.Helper()
	for i, x := range l {
		if x.got != x.want {
			t.Errorf("case %d: %v, want %v", i, x.got, x.want)
		}
	}
}

func TestFixed(t *testing.T) {
	cases[bool]{
		// Px needs no base.
		{Fixed(px(5), 100), true}, {Fixed(px(0), 0), true}, {Fixed(px(-5), 100), true}, {Fixed(px(5), -1), true}, {Fixed(px(5), math.MinInt), true},
		{Fixed(px(most+1), 0), true}, {Fixed(px(math.MinInt), math.MaxInt), true},
		// A base of 0 is known, one below it is not.
		{Fixed(per(2500), 640), true}, {Fixed(per(2500), 1), true}, {Fixed(per(2500), 0), true}, {Fixed(per(0), 0), true}, {Fixed(per(2500), math.MaxInt), true},
		{Fixed(per(2500), -1), false}, {Fixed(per(0), -1), false}, {Fixed(per(2500), math.MinInt), false},
		{Fixed(per(-1), 5), true}, {Fixed(per(1000001), 5), true}, {Fixed(per(-1), -5), false},
		{Fixed(auto(), 640), false}, {Fixed(auto(), 0), false}, {Fixed(auto(), -1), false}, {Fixed(other(api.Auto, 5), 640), false},
		{Fixed(other(3, 5), 640), false}, {Fixed(other(-1, 5), 640), false}, {Fixed(other(math.MaxInt, 0), 0), false}, {Fixed(other(math.MinInt, 0), 0), false},
	}.check(t)
}

func TestOf(t *testing.T) {
	cases[int]{
		{Of(px(5), 100, 7), 5}, {Of(px(0), 100, 7), 0}, {Of(px(-5), 100, 7), -5}, {Of(px(5), -1, 7), 5}, {Of(px(5), 0, 7), 5},
		{Of(px(most), 0, 7), most}, {Of(px(most+1), 0, 7), most}, {Of(px(-most-1), 0, 7), -most}, {Of(px(math.MaxInt), -1, 7), most}, {Of(px(math.MinInt), -1, 7), -most},
		{Of(per(2500), 640, 7), 160}, {Of(per(10000), 640, 7), 640}, {Of(per(0), 640, 7), 0}, {Of(per(20000), 640, 7), 1280}, {Of(per(2500), 0, 7), 0},
		// It is rounded down.
		{Of(per(5000), 7, 9), 3}, {Of(per(9999), 1, 9), 0}, {Of(per(3333), 3, 9), 0}, {Of(per(3334), 3, 9), 1},
		// Parts are cut to their own bounds, and the base, and what comes, to the limit.
		{Of(per(-1), 640, 7), 0}, {Of(per(math.MinInt), 640, 7), 0}, {Of(per(1000000), 640, 7), 64000}, {Of(per(1000001), 640, 7), 64000}, {Of(per(math.MaxInt), 1, 7), 100},
		{Of(per(5000), most, 7), most / 2}, {Of(per(5000), most+9, 7), most / 2}, {Of(per(5000), math.MaxInt, 7), most / 2}, {Of(per(10001), most, 7), most}, {Of(per(1000000), math.MaxInt, 7), most},
		// Of an unknown base it is not fixed.
		{Of(per(2500), -1, 7), 7}, {Of(per(2500), -640, 7), 7}, {Of(per(0), math.MinInt, -7), -7}, {Of(per(2500), -1, 0), 0},
		{Of(auto(), 640, 7), 7}, {Of(auto(), -1, 7), 7}, {Of(auto(), 640, -7), -7}, {Of(other(api.Auto, 5), 640, 7), 7},
		{Of(other(3, 5), 640, 7), 7}, {Of(other(-1, 5), 640, 7), 7}, {Of(other(math.MaxInt, 5), -1, 7), 7}, {Of(other(math.MinInt, 5), -1, 7), 7},
		// What is there instead is cut, too.
		{Of(auto(), 0, most), most}, {Of(auto(), 0, most+1), most}, {Of(auto(), 0, -most-1), -most}, {Of(per(1), -1, math.MaxInt), most}, {Of(per(1), -1, math.MinInt), -most},
		{Of(other(3, 5), 0, math.MaxInt), most},
	}.check(t)
}

func TestLimit(t *testing.T) {
	none := auto()
	cases[int]{
		{Limit(50, px(10), px(90), -1), 50}, {Limit(50, px(10), px(40), -1), 40}, {Limit(50, px(60), px(90), -1), 60},
		{Limit(50, px(50), px(50), -1), 50}, {Limit(50, px(10), px(50), -1), 50}, {Limit(50, px(50), px(90), -1), 50}, {Limit(50, px(10), px(49), -1), 49}, {Limit(50, px(51), px(90), -1), 51},
		// One end alone holds alone.
		{Limit(50, none, px(40), -1), 40}, {Limit(50, px(60), none, -1), 60}, {Limit(50, none, px(60), -1), 50}, {Limit(50, px(40), none, -1), 50}, {Limit(50, none, none, 9), 50},
		// Where the ends cross, the low one holds.
		{Limit(50, px(60), px(40), -1), 60}, {Limit(10, px(60), px(40), -1), 60}, {Limit(90, px(60), px(40), -1), 60},
		// Nothing is below 0, whatever the ends are.
		{Limit(-5, none, none, -1), 0}, {Limit(-5, px(-9), none, -1), 0}, {Limit(5, none, px(-9), -1), 0}, {Limit(5, px(-9), px(-3), -1), 0}, {Limit(-5, px(-9), px(9), -1), 0},
		{Limit(5, px(3), px(-9), -1), 3}, {Limit(0, none, none, 0), 0}, {Limit(5, px(0), px(0), 0), 0}, {Limit(math.MinInt, px(math.MinInt), none, 0), 0},
		// Parts are of the base, and hold nothing, if it is unknown.
		{Limit(50, per(5000), per(6000), 60), 36}, {Limit(20, per(5000), per(6000), 60), 30}, {Limit(33, per(5000), per(6000), 60), 33}, {Limit(50, per(5000), per(6000), 0), 0},
		{Limit(50, per(5000), per(6000), -1), 50}, {Limit(50, px(60), per(6000), -1), 60}, {Limit(50, per(5000), px(40), -1), 40}, {Limit(-50, per(5000), per(6000), -100), 0},
		// Other kinds hold nothing.
		{Limit(50, other(3, 60), other(3, 40), 100), 50}, {Limit(50, other(api.Auto, 60), other(api.Auto, 40), 100), 50}, {Limit(50, other(-1, 60), other(math.MaxInt, 40), 100), 50},
		// All is cut.
		{Limit(most+5, none, none, 0), most}, {Limit(math.MaxInt, none, px(math.MaxInt), 0), most}, {Limit(0, px(most+5), none, 0), most}, {Limit(0, px(math.MaxInt), px(3), 0), most},
		{Limit(math.MaxInt, none, px(most-1), 0), most - 1}, {Limit(math.MaxInt, none, per(5000), math.MaxInt), most / 2}, {Limit(math.MinInt, per(5000), none, math.MaxInt), most / 2},
	}.check(t)
}

func TestSides(t *testing.T) {
	top, right, bottom, left := px(1), px(2), px(3), px(4)
	cases[[4]int]{
		{Sides([4]api.Len{top, right, bottom, left}, 9), [4]int{1, 2, 3, 4}},
		{Sides([4]api.Len{api.Top: top, api.Left: left}, 9), [4]int{1, 0, 0, 4}},
		{Sides([4]api.Len{px(-1), auto(), per(10000), px(-4)}, 9), [4]int{-1, 0, 9, -4}},
		{Sides([4]api.Len{per(5000), per(2500), per(0), per(20000)}, 640), [4]int{320, 160, 0, 1280}},
		// What is not fixed is 0.
		{Sides([4]api.Len{px(1), per(2500), per(10000), px(4)}, -1), [4]int{1, 0, 0, 4}},
		{Sides([4]api.Len{other(api.Auto, 5), other(3, 5), other(-1, 5), per(1)}, -640), [4]int{}},
		{Sides([4]api.Len{}, 640), [4]int{}},
		{Sides([4]api.Len{px(math.MaxInt), px(math.MinInt), per(math.MaxInt), per(math.MinInt)}, math.MaxInt), [4]int{most, -most, most, 0}},
	}.check(t)
}

func TestValid(t *testing.T) {
	cases[bool]{
		{Valid(auto()), true}, {Valid(other(api.Auto, 1)), false}, {Valid(other(api.Auto, -1)), false}, {Valid(other(api.Auto, math.MinInt)), false},
		{Valid(px(0)), true}, {Valid(px(5)), true}, {Valid(px(-5)), true}, {Valid(px(most)), true}, {Valid(px(-most)), true},
		{Valid(px(most + 1)), false}, {Valid(px(-most - 1)), false}, {Valid(px(math.MaxInt)), false}, {Valid(px(math.MinInt)), false},
		{Valid(per(0)), true}, {Valid(per(1)), true}, {Valid(per(10000)), true}, {Valid(per(10001)), true}, {Valid(per(1000000)), true},
		{Valid(per(-1)), false}, {Valid(per(1000001)), false}, {Valid(per(math.MaxInt)), false}, {Valid(per(math.MinInt)), false},
		{Valid(other(3, 0)), false}, {Valid(other(3, 5)), false}, {Valid(other(-1, 0)), false}, {Valid(other(math.MaxInt, 0)), false}, {Valid(other(math.MinInt, 0)), false},
	}.check(t)
}

// At all arguments the calls of one length end, and are what their sentences tell.
func TestOneLengthAtAllArguments(t *testing.T) {
	for _, l := range lengths() {
		for _, base := range numbers() {
			for _, none := range numbers() {
				want, fixed := wantOf(l, base, none)
				if got := Of(l, base, none); got != want {
					t.Errorf("Of(%d, %d, %d) = %d, want %d", l, base, none, got, want)
				}
				if got := Fixed(l, base); got != fixed {
					t.Errorf("Fixed(%d, %d) = %t, want %t", l, base, got, fixed)
				}
			}
		}
		want := l.Kind == 0 && l.N == 0 || l.Kind == 1 && l.N == cut(l.N) || l.Kind == 2 && 0 <= l.N && l.N < 1000001
		if got := Valid(l); got != want {
			t.Errorf("Valid(%d) = %t, want %t", l, got, want)
		}
	}
}

// At all arguments sides end, and each is as if it were alone.
func TestSidesAtAllArguments(t *testing.T) {
	all := lengths()
	for i := range all {
		l := [4]api.Len{}
		for side := range l {
			l[side] = all[(i+side*29)%len(all)]
		}
		for _, base := range numbers() {
			got := Sides(l, base)
			for side := range l {
				if want, _ := wantOf(l[side], base, 0); got[side] != want {
					t.Errorf("Sides(%d, %d) = %d, want %d at side %d", l, base, got, want, side)
				}
			}
		}
	}
}

// At all arguments what is limited ends, is what its sentence tells, is within,
// and never below 0.
func TestLimitAtAllArguments(t *testing.T) {
	few := []int{math.MinInt, -1, 0, 640, most + 1, math.MaxInt}
	for _, low := range lengths() {
		for _, high := range lengths() {
			for _, base := range few {
				for _, n := range few {
					got := Limit(n, low, high, base)
					if want := wantLimit(n, low, high, base); got != want {
						t.Fatalf("Limit(%d, %d, %d, %d) = %d, want %d", n, low, high, base, got, want)
					}
					if !isWithin(got, low, high, base) {
						t.Fatalf("Limit(%d, %d, %d, %d) = %d: it is not within", n, low, high, base, got)
					}
				}
			}
		}
	}
}

// isWithin tells whether n is within the ends that are fixed, and not below 0.
// Where the high end is below the low one, or below 0, it can't be held.
func isWithin(n int, low, high api.Len, base int) bool {
	least, greatest := 0, math.MaxInt
	if end, fixed := wantOf(low, base, 0); fixed {
		least = max(least, end)
	}
	if end, fixed := wantOf(high, base, 0); fixed {
		greatest = max(least, end)
	}
	return n >= least && n <= greatest
}
