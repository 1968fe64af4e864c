package margin

import (
	"math"
	"slices"
	"testing"

	"valance/api"
)

const most = api.Most

func px(n int) api.Len { return api.Len{Kind: api.Px, N: n} }

func per(n int) api.Len { return api.Len{Kind: api.Per, N: n} }

func auto() api.Len { return api.Len{} }

// other is of any Kind, and of any N, whether or not that kind may have it.
func other(kind api.LenKind, n int) api.Len { return api.Len{Kind: kind, N: n} }

// numbers are those about which something changes: nothing, a few, the limit,
// and the ends of what an int can be.
func numbers() []int {
	l := []int{math.MinInt, math.MinInt + 1, math.MaxInt}
	for _, n := range []int{0, 1, 2, 5, 640, most/2 + 1, most - 1, most, most + 1} {
		l = append(l, n, -n)
	}
	return l
}

// lengths are of each kind, and of such as there are none.
func lengths() []api.Len {
	l := []api.Len{auto(), per(0), per(1), per(2500), per(10000), per(1000000), per(-1), per(math.MaxInt)}
	for _, n := range numbers() {
		l = append(l, px(n))
	}
	for _, kind := range []api.LenKind{api.Auto, 3, -1, math.MaxInt, math.MinInt} {
		l = append(l, other(kind, 5), other(kind, math.MaxInt))
	}
	return l
}

// cut is written out here, so that it is the limit's own words that are held
// against what comes.
func cut(n int) int {
	if n > 1<<40 {
		return 1 << 40
	}
	if n < -1<<40 {
		return -1 << 40
	}
	return n
}

// wantCollapse is by the document's words: each is cut first, and where none is
// above 0, or below it, 0 is there instead.
func wantCollapse(l []int) int {
	above, below := []int{0}, []int{0}
	for _, n := range l {
		if n > 0 {
			above = append(above, cut(n))
		}
		if n < 0 {
			below = append(below, cut(n))
		}
	}
	return cut(slices.Max(above) + slices.Min(below))
}

// wantMargin is how long a margin is by itself, and whether it is Auto.
func wantMargin(l api.Len, base int) (int, bool) {
	if l.Kind == 1 {
		return cut(l.N), false
	}
	if l.Kind == 2 && base >= 0 {
		return cut(cut(base) * min(max(l.N, 0), 1000000) / 10000), false
	}
	return 0, true
}

// wantAuto is by the document's words.
func wantAuto(room, size int, begin, end api.Len, base int) [2]int {
	a, aAuto := wantMargin(begin, base)
	b, bAuto := wantMargin(end, base)
	left := cut(cut(cut(cut(room)-cut(size))-a) - b)
	if left <= 0 {
		return [2]int{a, b}
	}
	if aAuto && bAuto {
		return [2]int{left / 2, left - left/2}
	}
	if aAuto {
		a = left
	}
	if bAuto {
		b = left
	}
	return [2]int{a, b}
}

// wantStack is where each begins, and ends, by the document's words.
func wantStack(sizes, tops, bottoms []int) ([]int, int) {
	begins, ends := []int{}, []int{0}
	for i := range sizes {
		at := 0
		if i > 0 {
			at = cut(ends[i] + wantCollapse([]int{bottoms[i-1], tops[i]}))
		}
		begins = append(begins, at)
		ends = append(ends, cut(at+cut(sizes[i])))
	}
	return begins, ends[len(sizes)]
}

// cases are what calls came to, beside what they should have.
type cases[T comparable] []struct{ got, want T }

func (l cases[T]) check(t *testing.T) {
	t.Helper()
	for i, x := range l {
		if x.got != x.want {
			t.Errorf("case %d: %v, want %v", i, x.got, x.want)
		}
	}
}

// of is a list of numbers, which Collapse is handed as one.
func of(l ...int) []int { return l }

// both are the two results of Auto as one that can be compared.
func both(begin, end int) [2]int { return [2]int{begin, end} }

func TestCollapse(t *testing.T) {
	cases[int]{
		{Collapse(of(10, -4, 6, -1)), 6}, {Collapse(of(5, 9, 3)), 9}, {Collapse(of(-5, -9, -3)), -9}, {Collapse(of(5, -9, 7, -1)), -2}, {Collapse(of(3, -3)), 0},
		{Collapse(of(7, 7, 7)), 7}, {Collapse(of(-7, -7)), -7}, {Collapse(of(1, -1, 1, -1)), 0}, {Collapse(of(-1, 8)), 7}, {Collapse(of(-8, 1)), -7},
		// None is 0, and so are those that are neither above 0 nor below it.
		{Collapse(nil), 0}, {Collapse(of()), 0}, {Collapse(of(0)), 0}, {Collapse(of(0, 0)), 0},
		// 0 is neither the greatest above 0 nor the least below it.
		{Collapse(of(0, 5)), 5}, {Collapse(of(0, -5)), -5}, {Collapse(of(-5, 0, 3)), -2},
		// One alone is itself.
		{Collapse(of(5)), 5}, {Collapse(of(-5)), -5}, {Collapse(of(most)), most}, {Collapse(of(-most)), -most},
		// Each is cut ahead of being added.
		{Collapse(of(most + 1)), most}, {Collapse(of(-most - 1)), -most}, {Collapse(of(math.MaxInt)), most}, {Collapse(of(math.MinInt)), -most},
		{Collapse(of(most+7, -5)), most - 5}, {Collapse(of(-most-7, 5)), 5 - most}, {Collapse(of(most, -most)), 0}, {Collapse(of(1<<50, -1<<50)), 0},
		{Collapse(of(math.MaxInt, math.MinInt)), 0}, {Collapse(of(math.MaxInt, 3, math.MinInt, -3)), 0}, {Collapse(of(math.MinInt, 1)), 1 - most},
	}.check(t)
}

func TestPair(t *testing.T) {
	cases[int]{
		{Pair(3, 8), 8}, {Pair(8, 3), 8}, {Pair(-3, -8), -8}, {Pair(-8, -3), -8}, {Pair(-3, 8), 5}, {Pair(8, -3), 5}, {Pair(3, -8), -5}, {Pair(-8, 3), -5},
		{Pair(0, 0), 0}, {Pair(0, 5), 5}, {Pair(5, 0), 5}, {Pair(0, -5), -5}, {Pair(-5, 0), -5}, {Pair(5, -5), 0}, {Pair(6, 6), 6}, {Pair(-6, -6), -6},
		{Pair(most, most), most}, {Pair(most+7, -5), most - 5}, {Pair(5, -most-7), 5 - most}, {Pair(math.MaxInt, math.MinInt), 0},
		{Pair(math.MaxInt, math.MaxInt), most}, {Pair(math.MinInt, math.MinInt), -most}, {Pair(math.MinInt, 0), -most},
	}.check(t)
}

func TestAuto(t *testing.T) {
	cases[[2]int]{
		// What is left stays there, if no margin is Auto.
		{both(Auto(100, 40, px(5), px(7), 200)), both(5, 7)}, {both(Auto(100, 40, px(0), px(0), 200)), both(0, 0)}, {both(Auto(10, 40, px(5), px(7), 200)), both(5, 7)},
		{both(Auto(100, 40, px(-5), px(-7), -1)), both(-5, -7)}, {both(Auto(100, 40, per(1000), per(500), 200)), both(20, 10)},
		// One that is alone Auto takes all that is left.
		{both(Auto(100, 40, auto(), px(7), 200)), both(53, 7)}, {both(Auto(100, 40, px(5), auto(), 200)), both(5, 55)}, {both(Auto(100, 40, auto(), px(0), 200)), both(60, 0)},
		{both(Auto(100, 40, px(-20), auto(), 200)), both(-20, 80)}, {both(Auto(100, 40, auto(), px(-20), 200)), both(80, -20)},
		{both(Auto(100, 40, per(1000), auto(), 200)), both(20, 40)}, {both(Auto(100, 40, auto(), per(1000), 200)), both(40, 20)}, {both(Auto(100, 40, per(1000), auto(), 0)), both(0, 60)},
		// Both take half, the end the odd one.
		{both(Auto(100, 40, auto(), auto(), 200)), both(30, 30)}, {both(Auto(101, 40, auto(), auto(), 200)), both(30, 31)}, {both(Auto(41, 40, auto(), auto(), 200)), both(0, 1)},
		{both(Auto(42, 40, auto(), auto(), 200)), both(1, 1)}, {both(Auto(43, 40, auto(), auto(), -1)), both(1, 2)},
		// Where nothing is left, or less than that, Auto is 0.
		{both(Auto(40, 40, auto(), auto(), 200)), both(0, 0)}, {both(Auto(30, 40, auto(), auto(), 200)), both(0, 0)}, {both(Auto(39, 40, auto(), px(0), 200)), both(0, 0)},
		{both(Auto(100, 40, auto(), px(70), 200)), both(0, 70)}, {both(Auto(100, 40, px(70), auto(), 200)), both(70, 0)}, {both(Auto(100, 40, px(60), auto(), 200)), both(60, 0)},
		{both(Auto(100, 40, px(59), auto(), 200)), both(59, 1)}, {both(Auto(-1, 0, auto(), auto(), 200)), both(0, 0)}, {both(Auto(0, 0, auto(), auto(), 0)), both(0, 0)},
		// A size below 0 leaves more than the room.
		{both(Auto(10, -4, auto(), px(1), 200)), both(13, 1)}, {both(Auto(-10, -15, auto(), auto(), 200)), both(2, 3)},
	}.check(t)
}

func TestAutoKinds(t *testing.T) {
	cases[[2]int]{
		// Parts of an unknown base are Auto; of one that is 0 they are 0.
		{both(Auto(100, 40, per(1000), px(7), -1)), both(53, 7)}, {both(Auto(100, 40, px(7), per(0), -1)), both(7, 53)}, {both(Auto(101, 40, per(1000), per(9), math.MinInt)), both(30, 31)},
		{both(Auto(100, 40, per(1000), per(1000), 0)), both(0, 0)}, {both(Auto(100, 40, per(1000), auto(), -1)), both(30, 30)}, {both(Auto(30, 40, per(1000), px(7), -1)), both(0, 7)},
		// The base is not the room.
		{both(Auto(100, 40, per(10000), auto(), 3)), both(3, 57)}, {both(Auto(100, 40, per(20000), auto(), 3)), both(6, 54)}, {both(Auto(100, 40, per(-1), auto(), 3)), both(0, 60)},
		{both(Auto(1<<30, 40, per(math.MaxInt), px(0), 3)), both(300, 0)},
		// Other kinds are Auto, whatever their N is.
		{both(Auto(100, 40, other(api.Auto, 5), px(7), 200)), both(53, 7)}, {both(Auto(100, 40, other(3, 5), px(7), 200)), both(53, 7)}, {both(Auto(100, 40, px(7), other(-1, 5), 200)), both(7, 53)},
		{both(Auto(100, 40, other(math.MaxInt, 5), other(math.MinInt, 5), 200)), both(30, 30)}, {both(Auto(30, 40, other(3, 5), other(9, 5), 200)), both(0, 0)},
	}.check(t)
}

func TestAutoIsCut(t *testing.T) {
	cases[[2]int]{
		{both(Auto(math.MaxInt, 0, auto(), auto(), 0)), both(most/2, most/2)}, {both(Auto(most+7, 1, auto(), auto(), 0)), both(most/2-1, most/2)}, {both(Auto(most+7, 5, px(0), auto(), 0)), both(0, most-5)},
		{both(Auto(most, math.MinInt, auto(), px(0), 0)), both(most, 0)}, {both(Auto(math.MinInt, math.MaxInt, auto(), auto(), 0)), both(0, 0)}, {both(Auto(math.MinInt, math.MinInt, auto(), auto(), 0)), both(0, 0)},
		// Room less size is cut ahead of the margins.
		{both(Auto(most, -most, auto(), px(5), 0)), both(most-5, 5)}, {both(Auto(most, -most, px(5), auto(), 0)), both(5, most-5)}, {both(Auto(-most, most, auto(), px(-most), 0)), both(0, -most)},
		{both(Auto(-most, 9, auto(), px(-most), 0)), both(0, -most)}, {both(Auto(-most, 9, auto(), px(-most-9), 0)), both(0, -most)},
		{both(Auto(0, 0, px(most+1), px(-most-1), 0)), both(most, -most)}, {both(Auto(0, 0, px(math.MaxInt), px(math.MinInt), 0)), both(most, -most)},
		{both(Auto(5, 0, px(math.MinInt), auto(), 0)), both(-most, most)}, {both(Auto(0, 5, px(math.MinInt), auto(), 0)), both(-most, most-5)}, {both(Auto(0, 5, per(1000000), auto(), math.MaxInt)), both(most, 0)},
	}.check(t)
}

// stacks are boxes one below the other, and where they should begin, and end.
func stacks() []stack {
	return []stack{
		{of(10, 20, 5), of(9, 4, -3), of(6, 2, 50), of(0, 16, 35), 40},
		{nil, nil, nil, nil, 0}, {of(), of(), nil, nil, 0},
		// Neither the first one's top counts, nor the last one's bottom.
		{of(7), of(3), of(5), of(0), 7}, {of(0), of(-3), of(-5), of(0), 0}, {of(10, 10), of(99, 0), of(0, 99), of(0, 10), 20}, {of(10, 10), of(-99, 0), of(0, -99), of(0, 10), 20},
		// What is between two is their Pair, and not both.
		{of(10, 10), of(0, 4), of(6, 0), of(0, 16), 26}, {of(10, 10), of(0, 6), of(4, 0), of(0, 16), 26}, {of(10, 10), of(0, -4), of(-6, 0), of(0, 4), 14},
		{of(10, 10), of(0, -4), of(6, 0), of(0, 12), 22}, {of(10, 10), of(0, 4), of(-6, 0), of(0, 8), 18}, {of(10, 10), of(0, -30), of(0, 0), of(0, -20), -10},
		// Through one that is 0 high margins don't come together here.
		{of(5, 0, 5), of(0, 3, 4), of(3, 4, 0), of(0, 8, 12), 17},
		// A size is as it is, below 0 too.
		{of(-5, 3), of(0, 2), of(1, 0), of(0, -3), 0}, {of(-5), of(0), of(0), of(0), -5}, {of(1, 2, 3, 4), of(0, 0, 0, 0), of(0, 0, 0, 0), of(0, 1, 3, 6), 10},
		// Where each begins, and ends, is cut, and what is next goes on from there.
		{of(math.MaxInt), of(0), of(0), of(0), most}, {of(math.MinInt), of(0), of(0), of(0), -most}, {of(most, 5, -3), of(0, 0, 0), of(0, 0, 0), of(0, most, most), most - 3},
		{of(most+9, 5), of(0, -7), of(0, 0), of(0, most-7), most - 2}, {of(most-1, -5), of(0, 9), of(0, 0), of(0, most), most - 5}, {of(-most, -5, 3), of(0, 0, 0), of(0, 0, 0), of(0, -most, -most), 3 - most},
		{of(5, 1), of(0, math.MinInt), of(math.MaxInt, 0), of(0, 5), 6}, {of(5, 1), of(0, math.MaxInt), of(math.MaxInt, 0), of(0, most), most}, {of(-5, 1), of(0, math.MinInt), of(0, 0), of(0, -most), 1 - most},
	}
}

type stack struct {
	sizes, tops, bottoms, begins []int
	end                          int
}

func (x stack) check(t *testing.T) {
	t.Helper()
	got, end := Stack(x.sizes, x.tops, x.bottoms)
	if !slices.Equal(got, x.begins) || end != x.end {
		t.Errorf("Stack(%d, %d, %d) = %d, %d, want %d, %d", x.sizes, x.tops, x.bottoms, got, end, x.begins, x.end)
	}
}

func TestStack(t *testing.T) {
	for _, x := range stacks() {
		x.check(t)
	}
}

// Where there are not as many tops, or bottoms, there is nothing: neither with
// fewer of them, nor with more.
func TestStackOfListsThatDiffer(t *testing.T) {
	for sizes := range 4 {
		for tops := range 4 {
			for bottoms := range 4 {
				got, end := Stack(of(3, 4, 5)[:sizes], of(1, 1, 1)[:tops], of(1, 1, 1)[:bottoms])
				if sizes == tops && sizes == bottoms {
					if len(got) != sizes {
						t.Errorf("%d of each: %d, %d", sizes, got, end)
					}
				} else if len(got) != 0 || end != 0 {
					t.Errorf("%d sizes, %d tops, %d bottoms: %d, %d", sizes, tops, bottoms, got, end)
				}
			}
		}
	}
}

// At all arguments what two come to, or three, ends, is what its sentence tells,
// and is the same in whatever order.
func TestCollapseAtAllArguments(t *testing.T) {
	check := func(want int, l ...int) {
		if got := Collapse(l); got != want {
			t.Errorf("Collapse(%d) = %d, want %d", l, got, want)
		}
	}
	for _, a := range numbers() {
		check(cut(a), a)
		for _, b := range numbers() {
			want := wantCollapse(of(a, b))
			check(want, a, b)
			check(want, b, a)
			if got := Pair(a, b); got != want {
				t.Errorf("Pair(%d, %d) = %d, want %d", a, b, got, want)
			}
			for _, c := range numbers() {
				want := wantCollapse(of(a, b, c))
				check(want, a, b, c)
				check(want, b, c, a)
				check(want, c, b, a)
			}
		}
	}
}

// Margins that come in all orders come to the same.
func TestCollapseInWhateverOrder(t *testing.T) {
	for _, x := range []struct {
		l    []int
		want int
	}{
		{of(10, -4, 6, -1, 0), 6}, {of(1, 2, 3, 4, 5), 5}, {of(-1, -2, -3, -4, -5), -5}, {of(most+5, 7, -3, math.MinInt, 0), 0}, {of(math.MaxInt, most, -3, -2, 1), most - 3},
	} {
		orders(x.l, 0, func() {
			if got := Collapse(x.l); got != x.want {
				t.Errorf("Collapse(%d) = %d, want %d", x.l, got, x.want)
			}
		})
	}
}

// orders calls see with each order of those of l from at on; then l is as it was.
func orders(l []int, at int, see func()) {
	if at == len(l) {
		see()
		return
	}
	for i := at; i < len(l); i++ {
		l[at], l[i] = l[i], l[at]
		orders(l, at+1, see)
		l[at], l[i] = l[i], l[at]
	}
}

// At all arguments Auto ends, and both margins are what its sentence tells.
func TestAutoAtAllArguments(t *testing.T) {
	for _, begin := range lengths() {
		for _, end := range lengths() {
			for _, base := range []int{math.MinInt, -1, 0, 640, most, math.MaxInt} {
				for _, room := range numbers() {
					for _, size := range []int{math.MinInt, -5, 0, 40, most, math.MaxInt} {
						got := both(Auto(room, size, begin, end, base))
						if want := wantAuto(room, size, begin, end, base); got != want {
							t.Fatalf("Auto(%d, %d, %d, %d, %d) = %d, want %d", room, size, begin, end, base, got, want)
						}
					}
				}
			}
		}
	}
}

// At all arguments a stack ends, and is what its sentence tells.
func TestStackAtAllArguments(t *testing.T) {
	all := numbers()
	for _, a := range all {
		for _, b := range all {
			for _, c := range all {
				sizes, tops, bottoms := of(a, b, c, 5), of(b, c, a, 7), of(c, 3, b, a)
				begins, end := wantStack(sizes, tops, bottoms)
				stack{sizes, tops, bottoms, begins, end}.check(t)
			}
		}
	}
}

// Arguments stay as they were, and answers are the caller's own: what becomes of
// one is not seen in another one, nor in an argument.
func TestNothingIsShared(t *testing.T) {
	l := of(10, -4, most+5, math.MinInt)
	sizes, tops, bottoms := of(10, 20, most+5), of(9, 4, -3), of(6, math.MinInt, 50)
	Collapse(l)
	first, _ := Stack(sizes, tops, bottoms)
	want := slices.Clone(first)
	second, _ := Stack(sizes, tops, bottoms)
	for i := range first {
		first[i] = 77
	}
	if !slices.Equal(second, want) {
		t.Errorf("what comes second is %d, want %d", second, want)
	}
	if !slices.Equal(l, of(10, -4, most+5, math.MinInt)) || !slices.Equal(sizes, of(10, 20, most+5)) || !slices.Equal(tops, of(9, 4, -3)) || !slices.Equal(bottoms, of(6, math.MinInt, 50)) {
		t.Errorf("arguments became %d, %d, %d, %d", l, sizes, tops, bottoms)
	}
	for i := range sizes {
		sizes[i], tops[i], bottoms[i] = 1, 1, 1
	}
	if !slices.Equal(second, want) {
		t.Errorf("what came second became %d, want %d", second, want)
	}
}
