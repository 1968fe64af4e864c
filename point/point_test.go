package point

import (
	"math"
	"math/rand"
	"testing"

	"valance/api"
)

const most = api.Most

var negativeZero = math.Copysign(0, -1)

// numbers are those about which something changes: nothing, the limit, and the
// ends of what an int can be.
func numbers() []int {
	l := []int{math.MinInt, math.MinInt + 1, math.MaxInt, math.MaxInt - 1}
	for _, n := range []int{0, 1, 2, 3, 7, 640, 1 << 20, 1 << 32, most / 2, most - 1, most, most + 1, 1 << 50, 1 << 53} {
		l = append(l, n, -n)
	}
	return l
}

// parts are floats that parts of points may be, most of them of no Whole one.
func parts() []float64 {
	l := []float64{math.NaN(), -math.NaN(), 0}
	for _, f := range []float64{
		0, 1, 3, 4, 1 << 20, most/2 + 1, most - 1, most, 0.5, 1.5, math.SmallestNonzeroFloat64, math.Nextafter(1, 0), math.Nextafter(1, 2),
		math.Nextafter(most, 0), math.Nextafter(most, math.Inf(1)), most - 0.5, most + 1, 1 << 41, 1 << 53, 1 << 63, 1e300, math.MaxFloat64, math.Inf(1),
	} {
		l = append(l, f, -f)
	}
	return append(l, negativeZero)
}

// points are those of all such parts.
func points() []complex128 {
	l := []complex128{}
	for _, x := range parts() {
		for _, y := range parts() {
			l = append(l, complex(x, y))
		}
	}
	return l
}

// fewPoints are some of them, for calls of three.
func fewPoints() []complex128 {
	return []complex128{
		0, 3 - 4i, -7 + 9i, complex(most, -most), complex(-most, most), complex(most+1, 5), complex(5, -most-1),
		2.5 + 1i, 1 + 2.5i, complex(math.NaN(), 3), complex(3, math.NaN()), complex(math.Inf(1), 0), complex(0, math.Inf(-1)),
		complex(negativeZero, negativeZero),
	}
}

// somePoints are whole ones of all sizes, always the same ones.
func somePoints(count int) []complex128 {
	source := rand.New(rand.NewSource(2))
	one := func() float64 {
		return float64((source.Int63n(2*most+1) - most) >> source.Intn(41))
	}
	l := []complex128{}
	for range count {
		l = append(l, complex(one(), one()))
	}
	return l
}

// wholeByMath tells by the library, not by conversion.
func wholeByMath(f float64) bool {
	return !math.IsNaN(f) && math.Abs(f) <= 1<<40 && math.Floor(f) == f
}

// pair is both parts as numbers, or 0, 0, if one is not whole.
func pair(p complex128) (x, y int) {
	if !wholeByMath(real(p)) || !wholeByMath(imag(p)) {
		return 0, 0
	}
	return int(real(p)), int(imag(p))
}

// cut is written out here, so that it is the limit's own words that are held
// against what comes.
func cut(n int) int {
	if n > 1<<40 {
		return 1 << 40
	}
	if n < -1<<40 {
		return -1 << 40
	}
	return n
}

// same fails, if got is not the point of x and y, or has a zero that is negative.
func same(t *testing.T, name string, got complex128, x, y int, arguments ...complex128) {
	t.Helper()
	if got != complex(float64(x), float64(y)) {
		t.Errorf("%s%v = %v, want %d, %d", name, arguments, got, x, y)
	}
	if real(got) == 0 && math.Signbit(real(got)) || imag(got) == 0 && math.Signbit(imag(got)) {
		t.Errorf("%s%v = %v: a zero is negative", name, arguments, got)
	}
}

func TestOf(t *testing.T) {
	for _, x := range []struct {
		x, y int
		want complex128
	}{
		{0, 0, 0}, {3, 4, 3 + 4i}, {3, -4, 3 - 4i}, {-3, 4, -3 + 4i},
		{most, -most, complex(most, -most)}, {most - 1, 1 - most, complex(most-1, 1-most)},
		{most + 1, -most - 1, complex(most, -most)}, {-most - 1, most + 1, complex(-most, most)},
		{1 << 50, -1 << 50, complex(most, -most)}, {5, math.MaxInt, complex(5, most)},
		{math.MaxInt, math.MinInt, complex(most, -most)}, {math.MinInt, 7, complex(-most, 7)},
	} {
		if got := Of(x.x, x.y); got != x.want {
			t.Errorf("Of(%d, %d) = %v, want %v", x.x, x.y, got, x.want)
		}
	}
}

// Of all numbers the point is whole, and has them as its parts, cut.
func TestOfHasItsParts(t *testing.T) {
	for _, x := range numbers() {
		for _, y := range numbers() {
			p := Of(x, y)
			same(t, "Of", p, cut(x), cut(y))
			if !Whole(p) || X(p) != cut(x) || Y(p) != cut(y) {
				t.Errorf("Of(%d, %d): Whole %t, X %d, Y %d", x, y, Whole(p), X(p), Y(p))
			}
		}
	}
}

func TestWhole(t *testing.T) {
	nan, inf := math.NaN(), math.Inf(1)
	for _, x := range []struct {
		p    complex128
		want bool
	}{
		{0, true}, {3 + 4i, true}, {-3 - 4i, true}, {complex(negativeZero, negativeZero), true},
		{complex(most, most), true}, {complex(-most, -most), true}, {complex(most-1, 1-most), true},
		{complex(most+1, 0), false}, {complex(0, most+1), false}, {complex(-most-1, 0), false}, {complex(0, -most-1), false},
		{complex(1<<41, 0), false}, {complex(0, 1<<63), false}, {complex(1e300, 0), false}, {complex(0, -1e300), false},
		{complex(math.Nextafter(most, inf), 0), false}, {complex(0, math.Nextafter(-most, -inf)), false},
		{complex(math.Nextafter(most, 0), 0), false}, {complex(0, most-0.5), false},
		{0.5, false}, {0.5i, false}, {-0.5, false}, {1 - 1.5i, false}, {complex(math.SmallestNonzeroFloat64, 0), false},
		{complex(nan, 0), false}, {complex(0, nan), false}, {complex(nan, nan), false},
		{complex(inf, 0), false}, {complex(0, inf), false}, {complex(-inf, 0), false}, {complex(0, -inf), false},
	} {
		if got := Whole(x.p); got != x.want {
			t.Errorf("Whole(%v) = %t, want %t", x.p, got, x.want)
		}
	}
}

func TestXY(t *testing.T) {
	for _, x := range []struct {
		p            complex128
		wantX, wantY int
	}{
		{0, 0, 0}, {3 - 4i, 3, -4}, {-3 + 4i, -3, 4}, {complex(most, -most), most, -most}, {complex(negativeZero, 2), 0, 2},
		// Of a point that is not Whole both are 0, whichever part is to blame.
		{0.25, 0, 0}, {5 + 0.5i, 0, 0}, {0.5 + 5i, 0, 0}, {complex(5, math.NaN()), 0, 0}, {complex(math.NaN(), 5), 0, 0},
		{complex(5, most+1), 0, 0}, {complex(-most-1, 5), 0, 0}, {complex(math.Inf(1), 5), 0, 0}, {complex(5, math.Inf(-1)), 0, 0},
	} {
		if X(x.p) != x.wantX || Y(x.p) != x.wantY {
			t.Errorf("X, Y of %v = %d, %d, want %d, %d", x.p, X(x.p), Y(x.p), x.wantX, x.wantY)
		}
	}
}

func TestCalls(t *testing.T) {
	high, low := complex(most, most), complex(-most, -most)
	nan := complex(math.NaN(), math.NaN())
	for i, x := range []struct{ got, want complex128 }{
		{Add(1+2i, 3-5i), 4 - 3i}, {Add(high, 1), high}, {Add(low, -1i), low}, {Add(complex(most, 3), -1+1i), complex(most-1, 4)},
		{Add(0.5+2i, 3+4i), 3 + 4i}, {Add(3+4i, 2+0.5i), 3 + 4i}, {Add(nan, nan), 0}, {Add(complex(most+1, 0), 1+1i), 1 + 1i},
		{Sub(1+2i, 3-5i), -2 + 7i}, {Sub(3-5i, 1+2i), 2 - 7i}, {Sub(high, low), high}, {Sub(low, 1+1i), low}, {Sub(low, high), low},
		{Sub(3+4i, 0.5), 3 + 4i}, {Sub(0.5, 3+4i), -3 - 4i}, {Sub(3+4i, nan), 3 + 4i}, {Sub(1+1i, complex(0, -most-1)), 1 + 1i},
		{Turn(3 + 4i), 4 + 3i}, {Turn(3 - 4i), -4 + 3i}, {Turn(-3 + 4i), 4 - 3i}, {Turn(5), 5i}, {Turn(5i), 5}, {Turn(0), 0},
		{Turn(complex(most, -most)), complex(-most, most)}, {Turn(1.5i), 0}, {Turn(3 + 1.5i), 0}, {Turn(nan), 0}, {Turn(complex(0, 1<<41)), 0},
		{Flip(3 + 4i), -3 + 4i}, {Flip(3 - 4i), -3 - 4i}, {Flip(-3 + 4i), 3 + 4i}, {Flip(5), -5}, {Flip(5i), 5i}, {Flip(0), 0},
		{Flip(complex(most, -most)), complex(-most, -most)}, {Flip(1.5i), 0}, {Flip(3 + 1.5i), 0}, {Flip(nan), 0}, {Flip(complex(1<<41, 0)), 0},
		{Within(5+5i, 0, 10+10i), 5 + 5i}, {Within(-5+15i, 0, 10+10i), 10i}, {Within(15-5i, 0, 10+10i), 10}, {Within(3-4i, 0, 2+2i), 2},
		{Within(-5-5i, -3-9i, 2+2i), -3 - 5i}, {Within(0, 0, 0), 0}, {Within(high, low, high), high}, {Within(low, low, high), low},
		// Where the ends cross, the low one holds.
		{Within(5+5i, 7+7i, 3+9i), 7 + 7i}, {Within(5+5i, 0+8i, 3+3i), 3 + 8i},
		// Each of the three counts as 0, 0, if it is not Whole.
		{Within(0.5+5i, 2+2i, 8+8i), 2 + 2i}, {Within(-3+5i, 2+0.5i, 8+8i), 5i}, {Within(5+5i, -2-2i, 8+0.5i), 0}, {Within(nan, nan, nan), 0},
		{Within(complex(most+1, 0), -1, 1), 0},
	} {
		if x.got != x.want {
			t.Errorf("case %d: %v, want %v", i, x.got, x.want)
		}
	}
}

// At all points the calls of one end, and are what the parts' numbers make.
func TestCallsOfOneAreByParts(t *testing.T) {
	for _, p := range append(points(), somePoints(1000)...) {
		x, y := pair(p)
		if want := wholeByMath(real(p)) && wholeByMath(imag(p)); Whole(p) != want {
			t.Errorf("Whole(%v) = %t, want %t", p, Whole(p), want)
		}
		if X(p) != x || Y(p) != y {
			t.Errorf("X, Y of %v = %d, %d, want %d, %d", p, X(p), Y(p), x, y)
		}
		same(t, "Turn", Turn(p), y, x, p)
		same(t, "Flip", Flip(p), -x, y, p)
	}
}

// At all points the calls of two end, and are what the parts' numbers make.
func TestCallsOfTwoAreByParts(t *testing.T) {
	l := append(fewPoints(), somePoints(100)...)
	for _, p := range append(points(), l...) {
		for _, q := range l {
			px, py := pair(p)
			qx, qy := pair(q)
			same(t, "Add", Add(p, q), cut(px+qx), cut(py+qy), p, q)
			same(t, "Add", Add(q, p), cut(px+qx), cut(py+qy), q, p)
			same(t, "Sub", Sub(p, q), cut(px-qx), cut(py-qy), p, q)
			same(t, "Sub", Sub(q, p), cut(qx-px), cut(qy-py), q, p)
		}
	}
}

// At all points Within ends, and is what the parts' numbers make.
func TestWithinIsByParts(t *testing.T) {
	l := append(fewPoints(), somePoints(20)...)
	check := func(p, lo, hi complex128) {
		px, py := pair(p)
		lx, ly := pair(lo)
		hx, hy := pair(hi)
		same(t, "Within", Within(p, lo, hi), max(lx, min(px, hx)), max(ly, min(py, hy)), p, lo, hi)
	}
	for _, p := range append(points(), l...) {
		for _, q := range l {
			check(p, q, 3-4i)
			check(3-4i, p, q)
			check(q, -7-7i, p)
		}
	}
	for _, p := range l {
		for _, lo := range l {
			for _, hi := range l {
				check(p, lo, hi)
			}
		}
	}
}

// Turned twice, or flipped twice, a whole point is itself; another one is 0.
func TestTwiceIsItself(t *testing.T) {
	for _, p := range append(points(), somePoints(1000)...) {
		x, y := pair(p)
		same(t, "Turn twice", Turn(Turn(p)), x, y, p)
		same(t, "Flip twice", Flip(Flip(p)), x, y, p)
		if Whole(p) && (Turn(Turn(p)) != p || Flip(Flip(p)) != p) {
			t.Errorf("%v: turned twice %v, flipped twice %v", p, Turn(Turn(p)), Flip(Flip(p)))
		}
	}
}

// What comes of any call is a whole point, not beyond the limit.
func TestWhatComesIsWhole(t *testing.T) {
	for _, p := range points() {
		for _, got := range []complex128{Add(p, p), Sub(p, -p), Sub(0, p), Turn(p), Flip(p), Within(p, p, p)} {
			if !Whole(got) {
				t.Errorf("of %v comes %v", p, got)
			}
		}
	}
}
