package stick

import (
	"math"
	"math/rand"
	"testing"

	"valance/api"
	"valance/point"
	"valance/rect"
)

const most = api.Most

// numbers are those about which something changes: nothing, a few, the limit,
// and the ends of what an int can be.
func numbers() []int {
	l := []int{math.MinInt, math.MinInt + 1, math.MaxInt}
	for _, n := range []int{0, 1, 2, 5, 40, most - 1, most, most + 1, 2 * most} {
		l = append(l, n, -n)
	}
	return l
}

func s(lo, hi int) api.Span { return api.Span{Lo: lo, Hi: hi} }

func r(x, y, w, h int) api.Rect { return api.Rect{X: x, Y: y, W: w, H: h} }

func on(n int) Side { return Side{On: true, By: n} }

// off is a side that is not on, whose By must not count.
func off(n int) Side { return Side{By: n} }

func px(n int) api.Len { return api.Len{Kind: api.Px, N: n} }

func per(n int) api.Len { return api.Len{Kind: api.Per, N: n} }

func other(kind api.LenKind, n int) api.Len { return api.Len{Kind: kind, N: n} }

// cut, and what follows, is written out here, so that it is the limit's own
// words that are held against what comes.
func cut(n int) int { return min(max(n, -1<<40), 1<<40) }

func add(a, b int) int { return cut(cut(a) + cut(b)) }

func sub(a, b int) int { return cut(cut(a) - cut(b)) }

// sticking is what sticks, and how far it should be shifted.
type sticking struct {
	box, in, port api.Span
	begin, end    Side
	want          int
}

func (x sticking) shift() int { return Shift(x.box, x.in, x.port, x.begin, x.end) }

func (x sticking) check(t *testing.T) {
	t.Helper()
	if got := x.shift(); got != x.want {
		t.Fatalf("Shift(%d, %d, %d, %v, %v) = %d, want %d", x.box, x.in, x.port, x.begin, x.end, got, x.want)
	}
}

func checkAll(t *testing.T, l ...sticking) {
	t.Helper()
	for _, x := range l {
		x.check(t)
	}
}

// byWords is by the document's words.
func (x sticking) byWords() int {
	down, up, begins, ends := 0, 0, add(x.port.Lo, x.begin.By), sub(x.port.Hi, x.end.By)
	if x.begin.On && cut(x.box.Lo) < begins {
		down = sub(begins, x.box.Lo)
	}
	if x.end.On && cut(x.box.Hi) > ends {
		up = sub(x.box.Hi, ends)
		if x.begin.On && cut(x.box.Lo) > begins {
			up = min(up, sub(x.box.Lo, begins))
		} else if x.begin.On {
			up = 0
		}
	}
	switch {
	case down > 0 && cut(x.in.Hi) > cut(x.box.Hi):
		return min(down, sub(x.in.Hi, x.box.Hi))
	case down <= 0 && up > 0 && cut(x.box.Lo) > cut(x.in.Lo):
		return -min(up, sub(x.box.Lo, x.in.Lo))
	}
	return 0
}

// bySteps goes 1 by 1: down, while the box does not keep from where the port
// begins, and there is more of in; then up, while it does not keep from where
// the port ends, there is more of in, and it would keep from the beginning yet.
func (x sticking) bySteps() int {
	n := 0
	for x.begin.On && x.box.Lo+n < x.port.Lo+x.begin.By && x.box.Hi+n < x.in.Hi {
		n++
	}
	for x.end.On && x.box.Hi+n > x.port.Hi-x.end.By && x.box.Lo+n > x.in.Lo {
		if x.begin.On && x.box.Lo+n <= x.port.Lo+x.begin.By {
			break
		}
		n--
	}
	return n
}

// holds is what holds at all arguments: nothing goes out of what it was within,
// and with 1 less the box would not keep from the end that it is shifted for.
func (x sticking) holds(t *testing.T) {
	t.Helper()
	n := x.shift()
	if x.in.Lo <= x.box.Lo && x.box.Hi <= x.in.Hi && (x.box.Lo+n < x.in.Lo || x.box.Hi+n > x.in.Hi) {
		t.Fatalf("%v is shifted by %d, and no longer within", x, n)
	}
	if n > 0 && !(x.begin.On && cut(x.box.Lo)+n-1 < add(x.port.Lo, x.begin.By)) {
		t.Fatalf("%v is shifted by %d, which is more than it must", x, n)
	}
	if n < 0 && !(x.end.On && cut(x.box.Hi)+n+1 > sub(x.port.Hi, x.end.By)) {
		t.Fatalf("%v is shifted by %d, which is more than it must", x, n)
	}
}

// What is ahead of where it keeps from the port's beginning goes down.
func TestShiftDown(t *testing.T) {
	checkAll(t,
		sticking{s(10, 14), s(0, 100), s(30, 80), on(5), off(9), 25}, sticking{s(10, 14), s(0, 100), s(30, 80), on(0), off(0), 20}, sticking{s(10, 14), s(0, 100), s(30, 80), on(-7), off(0), 13}, sticking{s(-10, -4), s(-20, 100), s(-5, 80), on(2), off(0), 7},
		// It keeps already, just so, or is 1 ahead.
		sticking{s(35, 39), s(0, 100), s(30, 80), on(5), off(0), 0}, sticking{s(34, 38), s(0, 100), s(30, 80), on(5), off(0), 1}, sticking{s(36, 40), s(0, 100), s(30, 80), on(5), off(0), 0}, sticking{s(10, 14), s(0, 100), s(30, 80), on(-20), off(0), 0}, sticking{s(10, 14), s(0, 100), s(30, 80), on(-40), off(0), 0},
		// It goes as far as in does.
		sticking{s(10, 14), s(0, 39), s(30, 80), on(5), off(0), 25}, sticking{s(10, 14), s(0, 38), s(30, 80), on(5), off(0), 24}, sticking{s(10, 14), s(0, 15), s(30, 80), on(5), off(0), 1}, sticking{s(10, 14), s(0, 14), s(30, 80), on(5), off(0), 0},
		// In ends ahead of it, or begins behind it: the one holds it, the other does not.
		sticking{s(10, 14), s(0, 13), s(30, 80), on(5), off(0), 0}, sticking{s(10, 14), s(0, -50), s(30, 80), on(5), off(0), 0}, sticking{s(10, 14), s(60, 100), s(30, 80), on(5), off(0), 25}, sticking{s(10, 14), s(99, 20), s(30, 80), on(5), off(0), 6},
		// The port's end does not count, nor whether there is any of it.
		sticking{s(10, 14), s(0, 100), s(30, 31), on(5), off(0), 25}, sticking{s(10, 14), s(0, 100), s(30, 0), on(5), off(0), 25}, sticking{s(10, 90), s(0, 100), s(30, 80), on(5), off(0), 10}, sticking{s(10, 10), s(0, 100), s(30, 80), on(5), off(0), 25}, sticking{s(10, 4), s(0, 20), s(30, 80), on(5), off(0), 16},
	)
}

// What is beyond where it keeps from the port's end goes up.
func TestShiftUp(t *testing.T) {
	checkAll(t,
		sticking{s(90, 94), s(0, 100), s(30, 80), off(9), on(5), -19}, sticking{s(90, 94), s(0, 100), s(30, 80), off(0), on(0), -14}, sticking{s(90, 94), s(0, 100), s(30, 80), off(0), on(-7), -7}, sticking{s(-9, -2), s(-20, 100), s(-50, -5), off(0), on(2), -5},
		// It keeps already, just so, or is 1 beyond.
		sticking{s(71, 75), s(0, 100), s(30, 80), off(0), on(5), 0}, sticking{s(72, 76), s(0, 100), s(30, 80), off(0), on(5), -1}, sticking{s(70, 74), s(0, 100), s(30, 80), off(0), on(5), 0}, sticking{s(90, 94), s(0, 100), s(30, 80), off(0), on(-14), 0}, sticking{s(90, 94), s(0, 100), s(30, 80), off(0), on(-40), 0},
		// It goes as far as in does.
		sticking{s(90, 94), s(71, 100), s(30, 80), off(0), on(5), -19}, sticking{s(90, 94), s(72, 100), s(30, 80), off(0), on(5), -18}, sticking{s(90, 94), s(89, 100), s(30, 80), off(0), on(5), -1}, sticking{s(90, 94), s(90, 100), s(30, 80), off(0), on(5), 0},
		// In begins behind it, or ends ahead of it: the one holds it, the other does not.
		sticking{s(90, 94), s(91, 100), s(30, 80), off(0), on(5), 0}, sticking{s(90, 94), s(150, 100), s(30, 80), off(0), on(5), 0}, sticking{s(90, 94), s(0, 40), s(30, 80), off(0), on(5), -19}, sticking{s(90, 94), s(85, 1), s(30, 80), off(0), on(5), -5},
		// The port's beginning does not count, nor whether there is any of it.
		sticking{s(90, 94), s(0, 100), s(79, 80), off(0), on(5), -19}, sticking{s(90, 94), s(0, 100), s(95, 80), off(0), on(5), -19}, sticking{s(20, 94), s(0, 100), s(30, 80), off(0), on(5), -19}, sticking{s(90, 90), s(0, 100), s(30, 80), off(0), on(5), -15}, sticking{s(90, 84), s(0, 100), s(30, 80), off(0), on(5), -9},
	)
}

// Where both sides are on, that of the beginning is ahead of that of the end.
func TestShiftOfBothSides(t *testing.T) {
	checkAll(t,
		sticking{s(40, 44), s(0, 100), s(30, 80), on(5), on(5), 0}, sticking{s(10, 14), s(0, 100), s(30, 80), on(5), on(5), 25}, sticking{s(90, 94), s(0, 100), s(30, 80), on(5), on(5), -19},
		// Up it goes no farther than to where it keeps from the beginning.
		sticking{s(40, 90), s(0, 100), s(30, 80), on(5), on(0), -5}, sticking{s(36, 90), s(0, 100), s(30, 80), on(5), on(0), -1}, sticking{s(35, 90), s(0, 100), s(30, 80), on(5), on(0), 0}, sticking{s(45, 90), s(0, 100), s(30, 80), on(5), on(0), -10}, sticking{s(46, 90), s(0, 100), s(30, 80), on(5), on(0), -10}, sticking{s(45, 91), s(0, 100), s(30, 80), on(5), on(0), -10},
		sticking{s(40, 90), s(37, 100), s(30, 80), on(5), on(0), -3}, sticking{s(40, 90), s(40, 100), s(30, 80), on(5), on(0), 0}, sticking{s(40, 90), s(41, 100), s(30, 80), on(5), on(0), 0},
		// Ahead of it, it goes down alone, though it is beyond the end, and though in does not let it.
		sticking{s(20, 90), s(0, 100), s(30, 80), on(5), on(0), 10}, sticking{s(20, 90), s(0, 200), s(30, 80), on(5), on(0), 15}, sticking{s(20, 90), s(0, 90), s(30, 80), on(5), on(0), 0}, sticking{s(20, 90), s(0, 60), s(30, 80), on(5), on(0), 0}, sticking{s(34, 90), s(0, 50), s(30, 80), on(5), on(0), 0},
		// A port with nothing between: both can't be kept.
		sticking{s(50, 54), s(0, 100), s(30, 30), on(5), on(5), -15}, sticking{s(34, 38), s(0, 100), s(30, 30), on(5), on(5), 1}, sticking{s(50, 54), s(0, 100), s(30, 80), on(30), on(30), 10}, sticking{s(70, 74), s(0, 100), s(30, 80), on(30), on(30), -10},
	)
}

// Where no side is on, it is not shifted, wherever it is; what the other side's
// By is does not count.
func TestShiftOfNoSide(t *testing.T) {
	for _, lo := range numbers() {
		for _, hi := range numbers() {
			for _, by := range numbers() {
				checkAll(t,
					sticking{s(lo, hi), s(-200, 200), s(30, 80), off(by), off(-by), 0}, sticking{s(10, 14), s(lo, hi), s(30, 80), off(by), off(5), 0}, sticking{s(90, 94), s(0, 100), s(lo, hi), off(5), off(by), 0},
					sticking{s(10, 14), s(0, 100), s(30, hi), on(5), off(by), 25}, sticking{s(90, 94), s(0, 100), s(lo, 80), off(by), on(5), -19},
				)
			}
		}
	}
}

// Beyond the limit all is cut: arguments, where it keeps, and how far it goes.
func TestShiftBeyondTheLimit(t *testing.T) {
	all := s(-most, most)
	checkAll(t,
		sticking{s(0, 0), all, s(most, most), on(5), off(0), most}, sticking{s(0, 0), all, s(math.MaxInt, 0), on(math.MaxInt), off(0), most}, sticking{s(0, 0), all, s(0, -most), off(0), on(5), -most}, sticking{s(0, 0), all, s(0, math.MinInt), off(0), on(math.MaxInt), -most},
		sticking{s(0, 0), all, s(math.MaxInt, 0), on(-5), off(0), most - 5}, sticking{s(0, 0), all, s(-5, 0), on(math.MaxInt), off(0), most - 5}, sticking{s(0, 0), all, s(0, math.MinInt), off(0), on(-5), 5 - most}, sticking{s(0, 0), all, s(0, 5), off(0), on(math.MaxInt), 5 - most},
		sticking{s(0, 0), all, s(0, 0), on(math.MinInt), off(0), 0}, sticking{s(0, 0), all, s(0, 0), off(0), on(math.MinInt), 0}, sticking{s(0, 0), all, s(most+7, most), on(-most), off(0), 0}, sticking{s(0, 0), all, s(0, -most-7), off(0), on(-most), 0},
		// How far it goes is cut, too.
		sticking{s(-most, -most), all, s(most, most), on(0), off(0), most}, sticking{s(math.MinInt, math.MinInt), s(math.MinInt, math.MaxInt), s(math.MaxInt, 0), on(0), off(0), most}, sticking{s(most, most), all, s(0, -most), off(0), on(0), -most}, sticking{s(math.MaxInt, math.MaxInt), s(math.MinInt, math.MaxInt), s(0, math.MinInt), off(0), on(0), -most},
		sticking{s(most, most), all, s(-most, -most), on(0), on(0), -most}, sticking{s(5-most, 9), all, s(math.MinInt, math.MinInt), on(0), on(0), -5},
		// What is beyond the limit is as far as the limit.
		sticking{s(most+9, most+9), s(0, most+99), s(most+99, 0), on(0), off(0), 0}, sticking{s(0, most-3), s(0, math.MaxInt), s(9, 0), on(0), off(0), 3}, sticking{s(3-most, 0), s(math.MinInt, 0), s(0, -9), off(0), on(0), -3}, sticking{s(-most-9, -most-9), s(-most-99, 0), s(0, -most-99), off(0), on(0), 0},
	)
}

// About 0, whatever is on, and wherever all begin and end, it goes as far as it
// does step by step, and what holds does.
func TestShiftByStepsAndWhatHolds(t *testing.T) {
	sides := []Side{off(0), off(3), on(-2), on(-1), on(0), on(1), on(3)}
	for _, hi := range []int{-1, 0, 2, 3} {
		for in := range 48 {
			for port := range 63 {
				for _, begin := range sides {
					for _, end := range sides {
						x := sticking{s(0, hi), s(in/8-3, in%8-1), s(port/9-3, port%9-2), begin, end, 0}
						x.want = x.bySteps()
						x.check(t)
						x.holds(t)
					}
				}
			}
		}
	}
}

// At all arguments Shift ends, and is what its sentences tell, and what holds
// does. There are too many to go through: always the same ones are picked.
func TestShiftAtAllArguments(t *testing.T) {
	all, source := numbers(), rand.New(rand.NewSource(1))
	pick := func() int { return all[source.Intn(len(all))] + source.Intn(2)*source.Intn(7) }
	side := func() Side { return Side{On: source.Intn(4) > 0, By: pick()} }
	for range 500000 {
		x := sticking{s(pick(), pick()), s(pick(), pick()), s(pick(), pick()), side(), side(), 0}
		x.want = x.byWords()
		x.check(t)
		x.holds(t)
	}
}

// Across it is the left and the right side that count, down the top and the
// bottom one; what is shifted one way is not shifted the other way for that.
func TestBoth(t *testing.T) {
	in, port := r(0, 0, 200, 200), r(40, 50, 60, 70)
	early, late := r(10, 20, 4, 6), r(150, 160, 4, 6)
	for i, x := range []struct {
		box   api.Rect
		sides [4]Side
		want  complex128
	}{
		{early, [4]Side{}, 0}, {late, [4]Side{}, 0}, {early, [4]Side{off(1), off(2), off(3), off(4)}, 0},
		{early, [4]Side{api.Top: on(1)}, 31i}, {early, [4]Side{api.Left: on(4)}, 34}, {early, [4]Side{api.Right: on(2), api.Bottom: on(3)}, 0},
		{late, [4]Side{api.Right: on(2)}, -56}, {late, [4]Side{api.Bottom: on(3)}, -49i}, {late, [4]Side{api.Top: on(1), api.Left: on(4)}, 0},
		{early, [4]Side{on(1), on(2), on(3), on(4)}, 34 + 31i}, {late, [4]Side{on(1), on(2), on(3), on(4)}, -56 - 49i}, {r(10, 160, 4, 6), [4]Side{on(1), on(2), on(3), on(4)}, 34 - 49i}, {r(150, 20, 4, 6), [4]Side{on(1), on(2), on(3), on(4)}, -56 + 31i},
		// Too long for the port, one way alone.
		{r(50, 160, 90, 6), [4]Side{on(1), on(2), on(3), on(4)}, -6 - 49i}, {r(150, 60, 4, 90), [4]Side{on(1), on(2), on(3), on(4)}, -56 - 9i},
		// Of a size below 0 there is nothing: it ends where it begins.
		{r(10, 20, -4, -6), [4]Side{on(1), on(2), on(3), on(4)}, 34 + 31i}, {r(150, 160, -4, -6), [4]Side{on(1), on(2), on(3), on(4)}, -52 - 43i},
	} {
		if got := Both(x.box, in, port, x.sides); got != x.want {
			t.Errorf("case %d: Both(%d, %v) = %v, want %v", i, x.box, x.sides, got, x.want)
		}
	}
}

// What it is within, and the port, count each way by that way's ends.
func TestBothIsWithin(t *testing.T) {
	every := [4]Side{on(1), on(2), on(3), on(4)}
	for i, x := range []struct {
		box, in, port api.Rect
		want          complex128
	}{
		{r(10, 20, 4, 6), r(5, 6, 20, 40), r(40, 50, 60, 70), 11 + 20i}, {r(150, 160, 4, 6), r(140, 130, 50, 90), r(40, 50, 60, 70), -10 - 30i}, {r(10, 20, 4, 6), r(10, 20, 4, 6), r(40, 50, 60, 70), 0}, {r(10, 20, 4, 6), r(5, 6, -20, -40), r(40, 50, 60, 70), 0},
		{r(10, 20, 4, 6), r(0, 0, 0, 99), r(40, 50, 60, 70), 31i}, {r(10, 20, 4, 6), r(0, 0, 99, 0), r(40, 50, 60, 70), 34}, {r(150, 160, 4, 6), r(0, 0, 200, 200), r(40, 50, -1, -1), -106 - 109i},
		{r(0, 0, 0, 0), r(0, 0, math.MaxInt, math.MaxInt), r(math.MaxInt, most-9, 5, 5), point.Of(most, most-8)}, {r(math.MaxInt, most-9, 9, 9), r(math.MinInt, 0, math.MaxInt, math.MaxInt), r(0, 0, 3, math.MinInt), point.Of(4-most, 10-most)},
	} {
		if got := Both(x.box, x.in, x.port, every); got != x.want {
			t.Errorf("case %d: Both(%d, %d, %d) = %v, want %v", i, x.box, x.in, x.port, got, x.want)
		}
	}
}

// At all arguments Both ends, and is the point of both ways.
func TestBothAtAllArguments(t *testing.T) {
	all, source := numbers(), rand.New(rand.NewSource(2))
	pick := func() int { return all[source.Intn(len(all))] + source.Intn(2)*source.Intn(7) }
	some := func() api.Rect { return r(pick(), pick(), pick(), pick()) }
	side := func() Side { return Side{On: source.Intn(4) > 0, By: pick()} }
	for range 300000 {
		box, in, port, sides := some(), some(), some(), [4]Side{side(), side(), side(), side()}
		across := sticking{rect.Across(box), rect.Across(in), rect.Across(port), sides[3], sides[1], 0}.byWords()
		down := sticking{rect.Down(box), rect.Down(in), rect.Down(port), sides[0], sides[2], 0}.byWords()
		got := Both(box, in, port, sides)
		if got != complex(float64(across), float64(down)) || !point.Whole(got) {
			t.Fatalf("Both(%d, %d, %d, %v) = %v, want %d, %d", box, in, port, sides, got, across, down)
		}
	}
}

// About 0, a box that is in a rectangle stays in it, shifted both ways.
func TestBothHolds(t *testing.T) {
	in, source := r(-5, -7, 13, 19), rand.New(rand.NewSource(3))
	within := func(n int) int { return source.Intn(n + 1) }
	side := func() Side { return Side{On: within(3) > 0, By: within(12) - 4} }
	for range 100000 {
		w, h := within(in.W), within(in.H)
		box := r(in.X+within(in.W-w), in.Y+within(in.H-h), w, h)
		port, sides := r(within(40)-20, within(40)-20, within(20), within(20)), [4]Side{side(), side(), side(), side()}
		if got := Both(box, in, port, sides); !rect.In(rect.Move(box, got), in) {
			t.Fatalf("Both(%d, %d, %d, %v) = %v: no longer within", box, in, port, sides, got)
		}
	}
}

func TestSides(t *testing.T) {
	for _, x := range []struct {
		l    [4]api.Len
		w, h int
		want [4]Side
	}{
		{[4]api.Len{px(1), px(2), px(3), px(4)}, 20, 50, [4]Side{on(1), on(2), on(3), on(4)}}, {[4]api.Len{per(1000), per(1000), per(1000), per(1000)}, 20, 50, [4]Side{on(5), on(2), on(5), on(2)}}, {[4]api.Len{per(1000), per(5000), {}, px(-3)}, 20, 50, [4]Side{on(5), on(10), {}, on(-3)}},
		{[4]api.Len{}, 20, 50, [4]Side{}}, {[4]api.Len{{}, px(0), {}, per(0)}, 20, 50, [4]Side{{}, on(0), {}, on(0)}}, {[4]api.Len{px(7), {}, per(10000), {}}, 20, 50, [4]Side{on(7), {}, on(50), {}}}, {[4]api.Len{per(33), per(333), per(3333), per(3333)}, 20, 50, [4]Side{on(0), on(0), on(16), on(6)}},
		// Parts of what is unknown are not on, each way by itself; of 0 they are 0.
		{[4]api.Len{per(1000), per(5000), px(3), px(-3)}, -1, -1, [4]Side{{}, {}, on(3), on(-3)}}, {[4]api.Len{per(1000), per(1000), per(1000), per(1000)}, -1, 50, [4]Side{on(5), {}, on(5), {}}}, {[4]api.Len{per(1000), per(1000), per(1000), per(1000)}, 20, math.MinInt, [4]Side{{}, on(2), {}, on(2)}}, {[4]api.Len{per(1000), per(1000), per(1000), per(1000)}, 0, 0, [4]Side{on(0), on(0), on(0), on(0)}},
		// What is not on has no By, whatever its length tells.
		{[4]api.Len{other(api.Auto, 5), other(3, 5), other(-1, 5), other(math.MaxInt, 5)}, 20, 50, [4]Side{}}, {[4]api.Len{other(math.MinInt, 5), per(-5), per(math.MaxInt), per(2000000)}, 20, 50, [4]Side{{}, on(0), on(5000), on(2000)}},
		// Nothing is beyond the limit.
		{[4]api.Len{px(math.MaxInt), px(math.MinInt), px(most + 1), px(-most - 1)}, 20, 50, [4]Side{on(most), on(-most), on(most), on(-most)}}, {[4]api.Len{per(5000), per(10000), per(10000), per(20000)}, math.MaxInt, most + 7, [4]Side{on(most / 2), on(most), on(most), on(most)}},
	} {
		if got := Sides(x.l, x.w, x.h); got != x.want {
			t.Errorf("Sides(%d, %d, %d) = %v, want %v", x.l, x.w, x.h, got, x.want)
		}
	}
}

// wantSide is by the document's words, of one length, and its own way's base.
func wantSide(l api.Len, base int) Side {
	switch {
	case l.Kind == 1:
		return on(cut(l.N))
	case l.Kind == 2 && base >= 0:
		return on(cut(cut(base) * min(max(l.N, 0), 1000000) / 10000))
	}
	return Side{}
}

// At all arguments Sides ends, and is what its sentence tells.
func TestSidesAtAllArguments(t *testing.T) {
	for _, n := range numbers() {
		for _, w := range numbers() {
			for _, h := range numbers() {
				for kind := api.LenKind(-1); kind <= 3; kind++ {
					a, b := other(kind, n), other(min(kind+1, api.Per), 2500)
					want := [4]Side{wantSide(a, h), wantSide(b, w), wantSide(b, h), wantSide(a, w)}
					if got := Sides([4]api.Len{a, b, b, a}, w, h); got != want {
						t.Fatalf("Sides(%d, %d, %d, %d) = %v, want %v", a, b, w, h, got, want)
					}
				}
			}
		}
	}
}
