package fix

import (
	"math"
	"math/big"
	"math/bits"
	"math/rand"
	"slices"
	"testing"

	"valance/api"
)

const most = api.Most

// edges are numbers about which something changes: nothing, the words' halves,
// the parts' bounds, the limit, and the ends of what an int can be.
func edges() []int {
	l := []int{}
	for _, n := range []int{
		0, 1, 3, 7, 100, api.Whole / 2, api.Whole, 1000000, 2000000,
		1 << 19, 1 << 20, 1 << 30, 1 << 31, 1 << 32, 1 << 39, most / 3, most, 1 << 41, 1 << 62, math.MaxInt,
	} {
		l = append(l, n, -n, n-1, 1-n)
		if n < math.MaxInt {
			l = append(l, n+1, -n-1)
		}
	}
	return append(l, math.MinInt, math.MinInt+1)
}

// some are numbers of all lengths, always the same ones.
func some(count int) []int {
	source := rand.New(rand.NewSource(1))
	l := []int{}
	for range count {
		n := int(source.Uint64() >> source.Intn(64))
		if source.Intn(2) == 0 {
			n = -n
		}
		l = append(l, n)
	}
	return l
}

// whole is n, cut by the document's words, as a number without a limit.
func whole(n int) *big.Int {
	return cutWhole(big.NewInt(int64(n)))
}

func cutWhole(n *big.Int) *big.Int {
	limit := big.NewInt(1 << 40)
	if n.CmpAbs(limit) <= 0 {
		return n
	}
	if n.Sign() < 0 {
		return limit.Neg(limit)
	}
	return limit
}

// floor is a by b, above 0, rounded down: Euclid's division is that of b above 0.
func floor(a, b *big.Int) *big.Int {
	return new(big.Int).Div(a, b)
}

func wantPart(a, n int) *big.Int {
	parts := big.NewInt(int64(n))
	if n < 0 {
		parts = big.NewInt(0)
	}
	if n > 1000000 {
		parts = big.NewInt(1000000)
	}
	return floor(new(big.Int).Mul(whole(a), parts), big.NewInt(10000))
}

func wantDiv(a, b int) *big.Int {
	if b <= 0 {
		return big.NewInt(0)
	}
	return floor(whole(a), whole(b))
}

// pairCalls are the calls of two numbers, each beside what it is without a limit.
func pairCalls() []pairCall {
	return []pairCall{
		{"Add", Add, func(a, b int) *big.Int { return new(big.Int).Add(whole(a), whole(b)) }},
		{"Sub", Sub, func(a, b int) *big.Int { return new(big.Int).Sub(whole(a), whole(b)) }},
		{"Mul", Mul, func(a, b int) *big.Int { return new(big.Int).Mul(whole(a), whole(b)) }},
		{"Div", Div, wantDiv},
		{"Part", Part, wantPart},
	}
}

type pairCall struct {
	name string
	call func(a, b int) int
	want func(a, b int) *big.Int
}

func (c pairCall) check(t *testing.T, a, b int) {
	t.Helper()
	got, want := c.call(a, b), cutWhole(c.want(a, b))
	if want.Cmp(big.NewInt(int64(got))) != 0 {
		t.Errorf("%s(%d, %d) = %d, want %d", c.name, a, b, got, want)
	}
}

func TestCut(t *testing.T) {
	for _, x := range []struct{ n, want int }{
		{0, 0}, {5, 5}, {-5, -5},
		{most - 1, most - 1}, {most, most}, {most + 1, most}, {math.MaxInt, most},
		{1 - most, 1 - most}, {-most, -most}, {-most - 1, -most}, {math.MinInt, -most},
	} {
		if got := Cut(x.n); got != x.want {
			t.Errorf("Cut(%d) = %d, want %d", x.n, got, x.want)
		}
	}
}

func TestAddSub(t *testing.T) {
	for i, x := range []struct{ got, want int }{
		{Add(2, 3), 5}, {Add(2, -3), -1}, {Add(-2, -3), -5},
		{Add(most, 0), most}, {Add(most, 1), most}, {Add(most, most), most}, {Add(-most, -1), -most},
		{Add(most-1, 1), most}, {Add(most, -1), most - 1},
		// Arguments are cut ahead of being added.
		{Add(most+7, -5), most - 5}, {Add(-most-7, 5), 5 - most},
		{Add(math.MaxInt, math.MaxInt), most}, {Add(math.MinInt, math.MinInt), -most}, {Add(math.MaxInt, math.MinInt), 0},
		{Sub(5, 3), 2}, {Sub(3, 5), -2}, {Sub(-3, -5), 2},
		{Sub(most, -1), most}, {Sub(-most, 1), -most}, {Sub(most, 1), most - 1},
		{Sub(most+7, 5), most - 5}, {Sub(5, most+7), 5 - most},
		{Sub(0, math.MinInt), most}, {Sub(math.MinInt, math.MinInt), 0}, {Sub(math.MaxInt, math.MinInt), most},
	} {
		if x.got != x.want {
			t.Errorf("case %d: %d, want %d", i, x.got, x.want)
		}
	}
}

func TestMul(t *testing.T) {
	for _, x := range []struct{ a, b, want int }{
		{6, 7, 42}, {-6, 7, -42}, {6, -7, -42}, {-6, -7, 42},
		{0, most, 0}, {-most, 0, 0}, {0, math.MinInt, 0}, {1, most, most}, {-1, most, -most}, {-1, -most, most},
		{1 << 20, 1 << 20, most}, {1<<20 - 1, 1<<20 + 1, most - 1}, {1<<20 + 1, 1<<20 - 1, most - 1},
		{1<<20 + 1, 1 << 20, most}, {-(1 << 20), 1 << 20, -most}, {1 - 1<<20, 1<<20 + 1, 1 - most},
		{most / 2, 2, most}, {most/2 - 1, 2, most - 2}, {most/2 + 1, 2, most},
		// Of these one word holds nothing, or less than the limit.
		{1 << 32, 1 << 32, most}, {1 << 32, -(1 << 32), -most}, {most, most, most}, {most, -most, -most},
		{1<<33 + 1, 1 << 31, most}, {1 << 40, 1 << 24, most},
		// Arguments are cut ahead of being multiplied.
		{math.MaxInt, 1, most}, {math.MinInt, 1, -most}, {math.MinInt, -1, most}, {math.MinInt, math.MinInt, most},
		{math.MaxInt, math.MinInt, -most},
	} {
		if got := Mul(x.a, x.b); got != x.want {
			t.Errorf("Mul(%d, %d) = %d, want %d", x.a, x.b, got, x.want)
		}
	}
}

func TestDiv(t *testing.T) {
	for _, x := range []struct{ a, b, want int }{
		{7, 2, 3}, {6, 2, 3}, {0, 2, 0}, {1, 2, 0}, {-1, 2, -1}, {-6, 2, -3}, {-7, 2, -4}, {-8, 3, -3},
		{5, 1, 5}, {-5, 1, -5}, {most, 1, most}, {-most, 1, -most}, {-1, most, -1}, {1, most, 0},
		// What divides is not above 0.
		{7, 0, 0}, {0, 0, 0}, {7, -2, 0}, {-7, -2, 0}, {-7, -1, 0}, {math.MinInt, -1, 0}, {7, math.MinInt, 0},
		// Arguments are cut ahead of being divided.
		{math.MaxInt, 2, most / 2}, {math.MinInt, 2, -most / 2}, {most, math.MaxInt, 1}, {most - 1, most + 1, 0},
		{math.MaxInt, math.MaxInt, 1}, {math.MinInt, math.MaxInt, -1}, {math.MinInt, most - 1, -2},
	} {
		if got := Div(x.a, x.b); got != x.want {
			t.Errorf("Div(%d, %d) = %d, want %d", x.a, x.b, got, x.want)
		}
	}
}

func TestPart(t *testing.T) {
	for _, x := range []struct{ a, n, want int }{
		{640, 2500, 160}, {1000, 10000, 1000}, {1000, 0, 0}, {3, 5000, 1}, {1, 9999, 0}, {9999, 1, 0}, {10000, 1, 1},
		// What is rounded goes down below 0 too.
		{-1, 1, -1}, {-3, 5000, -2}, {-640, 2500, -160}, {-10000, 1, -1}, {-10001, 1, -2}, {-1, 0, 0},
		// Parts are cut to 0 to 1000000.
		{1000, -1, 0}, {-1000, -5, 0}, {1000, math.MinInt, 0},
		{1, 1000000, 100}, {1, 1000001, 100}, {1000, 2000000, 100000}, {-1, math.MaxInt, -100},
		// The product itself has no limit, only what comes of it.
		{most, 10000, most}, {most, 5000, most / 2}, {most, 1, most / 10000}, {most, 10001, most}, {most, 1000000, most},
		{-most, 10000, -most}, {-most, 5000, -most / 2}, {-most, 10001, -most}, {most - 1, 10000, most - 1},
		{most / 100, 1000000, most / 100 * 100},
		{math.MaxInt, 5000, most / 2}, {math.MinInt, 5000, -most / 2}, {math.MaxInt, math.MaxInt, most},
	} {
		if got := Part(x.a, x.n); got != x.want {
			t.Errorf("Part(%d, %d) = %d, want %d", x.a, x.n, got, x.want)
		}
	}
}

func TestClamp(t *testing.T) {
	for _, x := range []struct{ n, lo, hi, want int }{
		{2, 0, 3, 2}, {5, 0, 3, 3}, {-5, 0, 3, 0}, {0, 0, 3, 0}, {3, 0, 3, 3}, {-7, -9, -8, -8}, {1, 2, 2, 2},
		// Where the ends cross, the low one holds.
		{5, 7, 3, 7}, {2, 9, 3, 9}, {10, 9, 3, 9}, {5, 9, 3, 9},
		{most + 1, 0, most + 2, most}, {math.MaxInt, math.MinInt, math.MaxInt, most}, {math.MinInt, math.MinInt, math.MaxInt, -most},
		{0, math.MaxInt, 5, most}, {5, math.MinInt, math.MinInt, -most}, {0, most + 1, most + 1, most},
	} {
		if got := Clamp(x.n, x.lo, x.hi); got != x.want {
			t.Errorf("Clamp(%d, %d, %d) = %d, want %d", x.n, x.lo, x.hi, got, x.want)
		}
	}
}

func TestSum(t *testing.T) {
	for _, x := range []struct {
		l    []int
		want int
	}{
		{nil, 0}, {[]int{}, 0}, {[]int{5}, 5}, {[]int{1, 2, 3, -10}, -4},
		// Each sum is cut ahead of the next one, so that their order counts.
		{[]int{most, most, -3}, most - 3}, {[]int{-3, most, most}, most}, {[]int{-most, -most, 3}, 3 - most},
		{[]int{most, -3, most}, most},
		{[]int{math.MaxInt, -3}, most - 3}, {[]int{math.MinInt, 3}, 3 - most}, {[]int{math.MaxInt}, most},
		{[]int{math.MinInt}, -most}, {[]int{math.MaxInt, math.MinInt, 1}, 1}, {slices.Repeat([]int{math.MaxInt}, 100), most},
	} {
		given := slices.Clone(x.l)
		if got := Sum(x.l); got != x.want {
			t.Errorf("Sum(%d) = %d, want %d", given, got, x.want)
		}
		if !slices.Equal(x.l, given) {
			t.Errorf("Sum(%d) left %d", given, x.l)
		}
	}
}

// Every call of two numbers ends, and is what it is without a limit, and cut.
func TestPairsAreAsWithoutLimit(t *testing.T) {
	l := append(edges(), some(300)...)
	for _, c := range pairCalls() {
		for _, a := range l {
			for _, b := range l {
				c.check(t, a, b)
			}
		}
	}
}

// Every call ends, at all arguments, with nothing beyond the limit.
func TestNothingIsBeyondTheLimit(t *testing.T) {
	l := edges()
	within := func(name string, n int, arguments ...int) {
		if n < -most || n > most {
			t.Errorf("%s(%d) = %d", name, arguments, n)
		}
	}
	for _, a := range l {
		within("Cut", Cut(a), a)
		for _, b := range l {
			for _, c := range pairCalls() {
				within(c.name, c.call(a, b), a, b)
			}
			for _, c := range l {
				within("Clamp", Clamp(a, b, c), a, b, c)
				within("Sum", Sum([]int{a, b, c}), a, b, c)
			}
		}
	}
}

func TestProductIsWhole(t *testing.T) {
	for _, a := range append(edges(), some(500)...) {
		for _, b := range append(edges(), some(500)...) {
			high, low := product(uint64(a), uint64(b))
			wantHigh, wantLow := bits.Mul64(uint64(a), uint64(b))
			if high != wantHigh || low != wantLow {
				t.Fatalf("product(%d, %d) = %d, %d, want %d, %d", uint64(a), uint64(b), high, low, wantHigh, wantLow)
			}
		}
	}
}
