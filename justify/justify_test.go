package justify

import (
	"fmt"
	"math"
	"math/big"
	"slices"
	"testing"

	"valance/api"
)

const most = api.Most

// kinds are all that there are, and some that there are not.
var kinds = []api.Justify{api.JustStart, api.JustEnd, api.JustCenter, api.JustBetween, api.JustAround, api.JustEvenly, -1, 6, math.MaxInt, math.MinInt}

// numbers are those about which something changes: nothing, a few, the limit,
// and the ends of what an int can be.
func numbers() []int {
	l := []int{math.MinInt, math.MinInt + 1, math.MaxInt}
	for _, n := range []int{0, 1, 2, 5, most - 1, most, most + 1} {
		l = append(l, n, -n)
	}
	return l
}

// of is a list of numbers.
func of(l ...int) []int { return l }

// many is n of the same number.
func many(n, number int) []int { return slices.Repeat(of(number), n) }

// cut, and what follows, is written out here, so that it is the limit's own
// words that are held against what comes.
func cut(n int) int { return min(max(n, -1<<40), 1<<40) }

func add(a, b int) int { return cut(cut(a) + cut(b)) }

func sub(a, b int) int { return cut(cut(a) - cut(b)) }

// times is a times n, cut, and then by whole, rounded down.
func times(a, n, whole int) int {
	limit := big.NewInt(1 << 40)
	product := new(big.Int).Mul(big.NewInt(int64(cut(a))), big.NewInt(int64(cut(n))))
	if product.CmpAbs(limit) > 0 {
		limit.Mul(limit, big.NewInt(int64(product.Sign())))
		product = limit
	}
	quotient, rest := new(big.Int).QuoRem(product, big.NewInt(int64(whole)), new(big.Int))
	if rest.Sign() < 0 {
		quotient.Sub(quotient, big.NewInt(1))
	}
	return int(quotient.Int64())
}

// wantLeft is the room less all sizes, with the gap between them.
func wantLeft(sizes []int, room, gap int) int {
	long := 0
	for i, size := range sizes {
		if i > 0 {
			long = add(long, gap)
		}
		long = add(long, size)
	}
	return sub(room, long)
}

// wantShared is the document's offset, and what more there is ahead of the k-th.
func wantShared(kind api.Justify, left, n int) (offset int, more func(k int) int) {
	none := func(int) int { return 0 }
	switch {
	case kind == api.JustEnd:
		return left, none
	case kind == api.JustBetween && left > 0 && n > 1:
		return 0, func(k int) int { return times(left, k, n-1) - times(left, k-1, n-1) }
	case kind == api.JustAround && left > 0:
		return times(left, 1, 2*n), func(k int) int { return times(left, 2*k+1, 2*n) - times(left, 2*k-1, 2*n) }
	case kind == api.JustEvenly && left > 0:
		return times(left, 1, n+1), func(k int) int { return times(left, k+1, n+1) - times(left, k, n+1) }
	case kind == api.JustCenter || kind == api.JustAround || kind == api.JustEvenly:
		return times(left, 1, 2), none
	}
	return 0, none
}

// wantStarts is by the document's words.
func wantStarts(kind api.Justify, sizes []int, room, gap int) []int {
	if len(sizes) == 0 {
		return nil
	}
	offset, more := wantShared(kind, wantLeft(sizes, room, gap), len(sizes))
	l := of(offset)
	for k := 1; k < len(sizes); k++ {
		l = append(l, add(add(add(l[k-1], sizes[k-1]), gap), more(k)))
	}
	return l
}

// starting is what is on a line, and where each should begin.
type starting struct {
	kind      api.Justify
	sizes     []int
	room, gap int
	want      []int
}

func (x starting) check(t *testing.T) {
	t.Helper()
	if got := Starts(x.kind, x.sizes, x.room, x.gap); !slices.Equal(got, x.want) {
		t.Errorf("Starts(%d, %d, %d, %d) = %d, want %d", x.kind, x.sizes, x.room, x.gap, got, x.want)
	}
}

func checkAll(t *testing.T, l ...starting) {
	t.Helper()
	for _, x := range l {
		x.check(t)
	}
}

func TestStart(t *testing.T) {
	checkAll(t,
		starting{api.JustStart, of(2, 3, 1), 20, 1, of(0, 3, 7)}, starting{api.JustStart, of(2, 3, 1), 20, 0, of(0, 2, 5)}, starting{api.JustStart, of(2, 3, 1), 0, 0, of(0, 2, 5)},
		starting{api.JustStart, of(2, 3, 1), -20, 4, of(0, 6, 13)}, starting{api.JustStart, of(9), 20, 4, of(0)}, starting{api.JustStart, of(4, 4), 20, -1, of(0, 3)}, starting{api.JustStart, of(4, -6, 2), 20, 1, of(0, 5, 0)},
	)
}

// What is no kind is as JustStart, whatever is left.
func TestNoKind(t *testing.T) {
	for _, kind := range []api.Justify{-1, 6, 7, 100, math.MaxInt, math.MinInt} {
		for _, room := range of(-20, 0, 6, 20) {
			starting{kind, of(2, 3, 1), room, 1, of(0, 3, 7)}.check(t)
		}
	}
}

func TestEnd(t *testing.T) {
	checkAll(t,
		starting{api.JustEnd, of(2, 3, 1), 20, 1, of(12, 15, 19)}, starting{api.JustEnd, of(2, 3, 1), 8, 1, of(0, 3, 7)}, starting{api.JustEnd, of(2, 3, 1), 7, 1, of(-1, 2, 6)}, starting{api.JustEnd, of(2, 3, 1), 0, 0, of(-6, -4, -1)},
		starting{api.JustEnd, of(4), 9, 7, of(5)}, starting{api.JustEnd, of(4), -9, 7, of(-13)}, starting{api.JustEnd, of(4, 4), 10, -1, of(3, 6)},
	)
}

// What is left is halved, rounded down: below 0 too.
func TestCenter(t *testing.T) {
	checkAll(t,
		starting{api.JustCenter, of(2, 3, 1), 21, 1, of(6, 9, 13)}, starting{api.JustCenter, of(2, 3, 1), 20, 1, of(6, 9, 13)}, starting{api.JustCenter, of(2, 3, 1), 8, 1, of(0, 3, 7)}, starting{api.JustCenter, of(2, 3, 1), 9, 1, of(0, 3, 7)},
		starting{api.JustCenter, of(2, 3, 1), 7, 1, of(-1, 2, 6)}, starting{api.JustCenter, of(2, 3, 1), 6, 1, of(-1, 2, 6)}, starting{api.JustCenter, of(2, 3, 1), 5, 1, of(-2, 1, 5)}, starting{api.JustCenter, of(4), 9, 7, of(2)}, starting{api.JustCenter, of(9), 4, 7, of(-3)},
	)
}

// The first one begins at 0, the last one ends with the room; what can't be shared
// alike is behind, where the parts come to one more.
func TestBetween(t *testing.T) {
	checkAll(t,
		starting{api.JustBetween, of(2, 2), 10, 0, of(0, 8)}, starting{api.JustBetween, of(2, 3, 1), 21, 1, of(0, 9, 20)}, starting{api.JustBetween, of(2, 3, 1), 20, 1, of(0, 9, 19)}, starting{api.JustBetween, of(2, 3, 1), 9, 1, of(0, 3, 8)},
		starting{api.JustBetween, many(4, 0), 10, 0, of(0, 3, 6, 10)}, starting{api.JustBetween, many(4, 0), 11, 0, of(0, 3, 7, 11)}, starting{api.JustBetween, many(5, 0), 2, 0, of(0, 0, 1, 1, 2)}, starting{api.JustBetween, of(4, 4), 10, -1, of(0, 6)},
		// Where nothing is left, or less than that, or one is alone, it is as JustStart.
		starting{api.JustBetween, of(2, 3, 1), 8, 1, of(0, 3, 7)}, starting{api.JustBetween, of(2, 3, 1), 7, 1, of(0, 3, 7)}, starting{api.JustBetween, of(2, 3, 1), -50, 1, of(0, 3, 7)},
		starting{api.JustBetween, of(4), 9, 0, of(0)}, starting{api.JustBetween, of(4), 4, 0, of(0)}, starting{api.JustBetween, of(4), 1, 0, of(0)},
	)
}

// Each has as much ahead as behind: half of that is ahead of the first one.
func TestAround(t *testing.T) {
	checkAll(t,
		starting{api.JustAround, of(2, 2), 12, 0, of(2, 8)}, starting{api.JustAround, of(2, 3, 1), 20, 1, of(2, 9, 17)}, starting{api.JustAround, of(2, 3, 1), 21, 1, of(2, 9, 17)}, starting{api.JustAround, of(2, 3, 1), 9, 1, of(0, 3, 7)}, starting{api.JustAround, of(2, 3, 1), 10, 1, of(0, 4, 8)},
		starting{api.JustAround, many(4, 0), 10, 0, of(1, 3, 6, 8)}, starting{api.JustAround, many(4, 0), 16, 0, of(2, 6, 10, 14)}, starting{api.JustAround, of(4), 9, 0, of(2)}, starting{api.JustAround, of(4), 5, 9, of(0)}, starting{api.JustAround, of(4, 4), 11, -1, of(1, 6)},
		// Where nothing is left, or less than that, it is as JustCenter.
		starting{api.JustAround, of(2, 3, 1), 8, 1, of(0, 3, 7)}, starting{api.JustAround, of(2, 3, 1), 5, 0, of(-1, 1, 4)}, starting{api.JustAround, of(2, 3, 1), 0, 0, of(-3, -1, 2)}, starting{api.JustAround, of(9), 4, 0, of(-3)},
	)
}

// As much is ahead of the first one as between two.
func TestEvenly(t *testing.T) {
	checkAll(t,
		starting{api.JustEvenly, of(2, 2), 10, 0, of(2, 6)}, starting{api.JustEvenly, of(2, 3, 1), 20, 1, of(3, 9, 16)}, starting{api.JustEvenly, of(2, 3, 1), 21, 1, of(3, 9, 16)}, starting{api.JustEvenly, of(2, 3, 1), 9, 1, of(0, 3, 7)}, starting{api.JustEvenly, of(2, 3, 1), 10, 1, of(0, 4, 8)},
		starting{api.JustEvenly, many(4, 0), 10, 0, of(2, 4, 6, 8)}, starting{api.JustEvenly, many(4, 0), 13, 0, of(2, 5, 7, 10)}, starting{api.JustEvenly, of(4), 9, 0, of(2)}, starting{api.JustEvenly, of(4), 5, 9, of(0)}, starting{api.JustEvenly, of(4, 4), 12, -1, of(1, 6)},
		// Where nothing is left, or less than that, it is as JustCenter.
		starting{api.JustEvenly, of(2, 3, 1), 8, 1, of(0, 3, 7)}, starting{api.JustEvenly, of(2, 3, 1), 5, 0, of(-1, 1, 4)}, starting{api.JustEvenly, of(2, 3, 1), 0, 0, of(-3, -1, 2)}, starting{api.JustEvenly, of(9), 4, 0, of(-3)},
	)
}

// Of none there is none, whatever is left.
func TestStartsOfNone(t *testing.T) {
	for _, kind := range kinds {
		for _, n := range numbers() {
			checkAll(t, starting{kind, nil, n, 1, nil}, starting{kind, of(), 5, n, nil})
		}
	}
}

// Beyond the limit all is cut: arguments, what is left, products, and what they
// come to, each as it comes.
func TestStartsBeyondTheLimit(t *testing.T) {
	checkAll(t,
		starting{api.JustStart, of(most, 5, 5), 0, 0, of(0, most, most)}, starting{api.JustStart, of(most+7, -5, 5), 0, 0, of(0, most, most-5)}, starting{api.JustStart, of(math.MinInt, 5, 0), 0, 0, of(0, -most, 5-most)},
		// The gap comes behind the end, and what is more behind the gap.
		starting{api.JustStart, of(most, 0), 0, math.MinInt, of(0, 0)}, starting{api.JustStart, of(5, 1), 0, math.MaxInt, of(0, most)}, starting{api.JustBetween, of(most, 0), most, -9, of(0, most)},
		starting{api.JustBetween, of(-most, 0), most, -9, of(0, 0)}, starting{api.JustBetween, of(-4, 0), most, -most, of(0, 0)}, starting{api.JustEnd, of(5, 4), most, most, of(0, most)},
		starting{api.JustEnd, of(0), math.MaxInt, 0, of(most)}, starting{api.JustEnd, of(0), math.MinInt, 0, of(-most)}, starting{api.JustEnd, of(math.MinInt), math.MaxInt, 0, of(most)}, starting{api.JustEnd, of(math.MaxInt), math.MinInt, 0, of(-most)},
		starting{api.JustEnd, of(5, 5), math.MaxInt, 0, of(most-10, most-5)}, starting{api.JustCenter, of(0), math.MaxInt, 0, of(most / 2)}, starting{api.JustCenter, of(1), math.MinInt, 0, of(-most / 2)},
		// Products are cut, so that what is ahead grows no more.
		starting{api.JustBetween, many(3, 0), most, 0, of(0, most/2, most/2)}, starting{api.JustBetween, many(3, 0), most / 2, 0, of(0, most/4, most/2)}, starting{api.JustBetween, many(5, 0), most / 2, 0, of(0, most/8, most/4, most/4, most/4)},
		starting{api.JustAround, many(2, 0), most, 0, of(most/4, most/4)}, starting{api.JustAround, many(2, 0), most / 2, 0, of(most/8, most/4)}, starting{api.JustEvenly, many(3, 0), most, 0, of(most/4, most/4, most/4)}, starting{api.JustEvenly, many(3, 0), most / 2, 0, of(most/8, most/4, most/4)},
	)
}

func TestAcross(t *testing.T) {
	for _, x := range []struct {
		kind             api.Align
		size, room, want int
	}{
		{api.AlignStretch, 3, 8, 0}, {api.AlignStart, 3, 8, 0}, {api.AlignCenter, 3, 8, 2}, {api.AlignEnd, 3, 8, 5}, {api.AlignCenter, 2, 8, 3}, {api.AlignCenter, 8, 8, 0}, {api.AlignEnd, 8, 8, 0}, {api.AlignStretch, 8, 8, 0}, {api.AlignCenter, 0, 0, 0},
		// What is too long goes out; it is halved rounded down.
		{api.AlignStretch, 9, 8, 0}, {api.AlignStart, 9, 8, 0}, {api.AlignCenter, 9, 8, -1}, {api.AlignCenter, 10, 8, -1}, {api.AlignCenter, 11, 8, -2}, {api.AlignEnd, 9, 8, -1}, {api.AlignEnd, 3, -8, -11}, {api.AlignEnd, -3, 8, 11}, {api.AlignCenter, -3, 8, 5},
		// What is no kind begins at 0.
		{-1, 3, 8, 0}, {4, 3, 8, 0}, {5, 3, 8, 0}, {math.MaxInt, 3, 8, 0}, {math.MinInt, 3, 8, 0},
		// Nothing is beyond the limit.
		{api.AlignEnd, 0, math.MaxInt, most}, {api.AlignEnd, math.MinInt, 0, most}, {api.AlignEnd, math.MinInt, math.MaxInt, most}, {api.AlignEnd, math.MaxInt, math.MinInt, -most}, {api.AlignEnd, math.MaxInt, math.MaxInt, 0}, {api.AlignEnd, 5, most + 7, most - 5}, {api.AlignEnd, most + 7, 5, 5 - most},
		{api.AlignCenter, 0, math.MaxInt, most / 2}, {api.AlignCenter, math.MinInt, math.MaxInt, most / 2}, {api.AlignCenter, math.MaxInt, math.MinInt, -most / 2}, {api.AlignCenter, 5, most + 7, most/2 - 3}, {api.AlignCenter, most + 7, 5, 2 - most/2},
	} {
		if got := Across(x.kind, x.size, x.room); got != x.want {
			t.Errorf("Across(%d, %d, %d) = %d, want %d", x.kind, x.size, x.room, got, x.want)
		}
	}
}

func TestFlip(t *testing.T) {
	for _, x := range []struct {
		starts, sizes []int
		room          int
		want          []int
	}{
		{of(0, 3, 7), of(2, 3, 1), 20, of(18, 14, 12)}, {of(0, 3, 7), of(2, 3, 1), 8, of(6, 2, 0)}, {of(18, 14, 12), of(2, 3, 1), 20, of(0, 3, 7)}, {of(5), of(4), 9, of(0)}, {of(0), of(9), 4, of(-5)}, {of(-5), of(9), 4, of(0)}, {of(1), of(2), -10, of(-13)}, {of(5), of(-4), 9, of(8)},
		// None, if there are not as many sizes.
		{nil, nil, 3, nil}, {of(), nil, 3, nil}, {of(1), nil, 3, nil}, {nil, of(1), 3, nil}, {of(1, 2), of(1), 3, nil}, {of(1), of(1, 2), 3, nil}, {of(0, 3, 7), of(2, 3), 20, nil}, {of(0, 3), of(2, 3, 1), 20, nil},
		// Where it ends is cut, and so is what comes.
		{of(most), of(5), most, of(0)}, {of(most), of(5), 0, of(-most)}, {of(-most), of(-5), 0, of(most)}, {of(most + 7), of(-5), most, of(5)}, {of(math.MinInt), of(math.MinInt), math.MaxInt, of(most)}, {of(math.MaxInt), of(math.MaxInt), math.MinInt, of(-most)}, {of(math.MaxInt), of(math.MinInt), 7, of(7)}, {of(1), of(1), math.MaxInt, of(most - 2)},
	} {
		if got := Flip(x.starts, x.sizes, x.room); !slices.Equal(got, x.want) {
			t.Errorf("Flip(%d, %d, %d) = %d, want %d", x.starts, x.sizes, x.room, got, x.want)
		}
	}
}

// At all arguments Starts ends, and is what its sentences tell.
func TestStartsAtAllArguments(t *testing.T) {
	all := numbers()
	for _, a := range all {
		for _, b := range all {
			for _, room := range all {
				for _, gap := range all {
					for _, kind := range kinds {
						for _, sizes := range [][]int{of(a), of(a, b), of(b, 3, a), of(a, b, 1, a, 0)} {
							if got, want := Starts(kind, sizes, room, gap), wantStarts(kind, sizes, room, gap); !slices.Equal(got, want) {
								t.Fatalf("Starts(%d, %d, %d, %d) = %d, want %d", kind, sizes, room, gap, got, want)
							}
						}
					}
				}
			}
		}
	}
}

// At all arguments Across and Flip end, and are what their sentences tell.
func TestAcrossAndFlipAtAllArguments(t *testing.T) {
	all := numbers()
	for _, a := range all {
		for _, b := range all {
			left := sub(b, a)
			for kind, want := range map[api.Align]int{api.AlignCenter: times(left, 1, 2), api.AlignEnd: left, api.AlignStart: 0, api.AlignStretch: 0, -1: 0, 4: 0, math.MaxInt: 0, math.MinInt: 0} {
				if got := Across(kind, a, b); got != want {
					t.Fatalf("Across(%d, %d, %d) = %d, want %d", kind, a, b, got, want)
				}
			}
			for _, room := range all {
				if got, want := Flip(of(a, b, 3), of(b, 2, a), room), of(sub(room, add(a, b)), sub(room, add(b, 2)), sub(room, add(3, a))); !slices.Equal(got, want) {
					t.Fatalf("Flip(%d, %d, %d) = %d, want %d", of(a, b, 3), of(b, 2, a), room, got, want)
				}
			}
		}
	}
}

// lists are some of sizes, from none up to more than go on a line.
func lists() [][]int {
	l := [][]int{}
	for _, n := range []int{0, 1, 2, 3, 7, 63, 64, 65, 200} {
		sizes := make([]int, n)
		for i := range sizes {
			sizes[i] = i * i * 7919 % 1009 % 13
		}
		l = append(l, sizes)
	}
	return l
}

// What is on a line, whatever is left, begins where it should, does not run into
// each other, and is as it was when it is flipped twice.
func TestWhatHoldsOfLists(t *testing.T) {
	for _, sizes := range lists() {
		for _, room := range []int{-7, 0, 1, 8, 15, 40, 301, 777, 1600, 5000, 1 << 30} {
			for gap := range 4 {
				for _, kind := range kinds {
					starting{kind, sizes, room, gap, wantStarts(kind, sizes, room, gap)}.check(t)
					holds(t, kind, sizes, room, gap)
				}
			}
		}
	}
}

// holds is what holds where sizes and gaps are not below 0, and nothing is cut.
func holds(t *testing.T, kind api.Justify, sizes []int, room, gap int) {
	t.Helper()
	starts := Starts(kind, sizes, room, gap)
	asked := fmt.Sprintf("Starts(%d, %d, %d, %d) = %d", kind, sizes, room, gap, starts)
	if len(starts) != len(sizes) {
		t.Fatalf("%s: not one for each", asked)
	}
	for k := 1; k < len(starts); k++ {
		if starts[k] < starts[k-1]+sizes[k-1]+gap {
			t.Fatalf("%s: %d runs into the one ahead", asked, k)
		}
	}
	left := wantLeft(sizes, room, gap)
	if n := len(sizes); n > 0 && left >= 0 && (starts[0] < 0 || starts[n-1]+sizes[n-1] > room) {
		t.Fatalf("%s: it is not within the room", asked)
	}
	flipped := Flip(starts, sizes, room)
	if again := Flip(flipped, sizes, room); !slices.Equal(again, starts) {
		t.Fatalf("%s: flipped twice it is %d", asked, again)
	}
	for k := 1; k < len(flipped); k++ {
		if flipped[k-1] < flipped[k]+sizes[k]+gap {
			t.Fatalf("%s: flipped, %d runs into the one ahead: %d", asked, k, flipped)
		}
	}
}

// Near the limit, too, nothing runs into the one ahead: what is more is never
// below 0.
func TestNothingRunsIntoAtTheLimit(t *testing.T) {
	for _, sizes := range lists() {
		for _, room := range []int{most / 200, most / 65, most / 3, most - 3, most, math.MaxInt} {
			for _, kind := range kinds {
				starts := Starts(kind, sizes, room, 1)
				for k := 1; k < len(starts); k++ {
					if starts[k] < add(add(starts[k-1], sizes[k-1]), 1) {
						t.Fatalf("Starts(%d, %d, %d, 1) = %d: %d runs into the one ahead", kind, sizes, room, starts, k)
					}
				}
			}
		}
	}
}

// Arguments stay as they were, and answers are the caller's own: what becomes of
// one is not seen in another one, nor in an argument.
func TestNothingIsShared(t *testing.T) {
	sizes, starts := of(4, most+5, -3, math.MinInt), of(0, 3, most+9, math.MinInt)
	for _, kind := range kinds {
		givenSizes, givenStarts := slices.Clone(sizes), slices.Clone(starts)
		begun, flipped := Starts(kind, givenSizes, 50, 1), Flip(givenStarts, givenSizes, 50)
		if !slices.Equal(givenSizes, sizes) || !slices.Equal(givenStarts, starts) {
			t.Errorf("arguments became %d, %d", givenSizes, givenStarts)
		}
		wantBegun, wantFlipped := slices.Clone(begun), slices.Clone(flipped)
		otherBegun, otherFlipped := Starts(kind, givenSizes, 50, 1), Flip(givenStarts, givenSizes, 50)
		for i := range sizes {
			givenSizes[i], givenStarts[i], otherBegun[i], otherFlipped[i] = 77, 77, 77, 77
		}
		if !slices.Equal(begun, wantBegun) || !slices.Equal(flipped, wantFlipped) {
			t.Errorf("answers became %d, %d, want %d, %d", begun, flipped, wantBegun, wantFlipped)
		}
	}
}
