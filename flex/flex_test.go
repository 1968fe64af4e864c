package flex

import (
	"math"
	"math/big"
	"math/rand"
	"slices"
	"testing"
)

const (
	size20 = 1 << 20 // the most that a size counts as
	room26 = 1 << 26 // and a room
)

// it is an item.
func it(base, low, high, grow, shrink int) Item { return Item{base, low, high, grow, shrink} }

// free is an item that may have any size.
func free(base, grow, shrink int) Item { return it(base, 0, size20, grow, shrink) }

// of is a list of numbers, and items one of items.
func of(l ...int) []int { return l }

func items(l ...Item) []Item { return l }

// many is n of one kind.
func many[T any](n int, x T) []T { return slices.Repeat([]T{x}, n) }

// within is written out here, so that it is the document's own words that are
// held against what comes.
func within(n, lo, hi int) int { return max(lo, min(n, hi)) }

func wantClamp(x Item, n int) int {
	return max(within(x.Low, 0, 1<<20), min(n, within(x.High, 0, 1<<20)))
}

// wantShare is by the document's words, without a limit: each one's part, with
// all ahead of it, is reckoned anew.
func wantShare(n int, weights []int) []int {
	upTo := func(count int) int {
		some, all := new(big.Int), new(big.Int)
		for i, weight := range weights {
			counts := big.NewInt(int64(within(weight, 0, 1<<30)))
			all.Add(all, counts)
			if i < count {
				some.Add(some, counts)
			}
		}
		if all.Sign() == 0 {
			return 0
		}
		some.Mul(some, big.NewInt(int64(within(n, 0, 1<<26))))
		return int(some.Div(some, all).Int64())
	}
	l := []int{}
	if len(weights) > 64 {
		return l
	}
	for i := range weights {
		l = append(l, upTo(i+1)-upTo(i))
	}
	return l
}

// wantSizes is by the document's words.
func wantSizes(given []Item, room int) []int {
	if len(given) > 64 {
		return nil
	}
	room = within(room, 0, 1<<26)
	l, frozen, sizes := []Item{}, []bool{}, []int{}
	all := 0
	for _, x := range given {
		x = it(within(x.Base, 0, 1<<20), within(x.Low, 0, 1<<20), within(x.High, 0, 1<<20), within(x.Grow, 0, 1000), within(x.Shrink, 0, 1000))
		l, sizes = append(l, x), append(sizes, wantClamp(x, x.Base))
		all += wantClamp(x, x.Base)
	}
	grows := all < room
	for i, x := range l {
		if grows {
			frozen = append(frozen, x.Grow == 0 || x.Base > sizes[i])
		} else {
			frozen = append(frozen, x.Shrink == 0 || x.Base < sizes[i])
		}
	}
	for slices.Contains(frozen, false) {
		wantRound(l, frozen, sizes, room, grows)
	}
	return sizes
}

// wantRound is one round: at its end one more is frozen.
func wantRound(l []Item, frozen []bool, sizes []int, room int, grows bool) {
	left, weights, loose := room, []int{}, []int{}
	for i, x := range l {
		switch {
		case frozen[i]:
			left -= sizes[i]
			continue
		case grows:
			weights = append(weights, x.Grow)
		default:
			weights = append(weights, x.Shrink*x.Base)
		}
		left -= x.Base
		loose = append(loose, i)
	}
	more, less := map[int]bool{}, map[int]bool{}
	made := 0
	for k, i := range loose {
		n := 0
		if grows {
			n = l[i].Base + wantShare(max(left, 0), weights)[k]
		} else {
			n = l[i].Base - wantShare(-min(left, 0), weights)[k]
		}
		sizes[i] = wantClamp(l[i], n)
		made += sizes[i] - n
		more[i], less[i] = sizes[i] > n, sizes[i] < n
	}
	for _, i := range loose {
		frozen[i] = made == 0 || made > 0 && more[i] || made < 0 && less[i]
	}
}

func TestClamp(t *testing.T) {
	for _, x := range []struct {
		low, high, n, want int
	}{
		{2, 8, 5, 5}, {2, 8, 1, 2}, {2, 8, 9, 8}, {2, 8, 2, 2}, {2, 8, 8, 8}, {3, 3, 7, 3}, {3, 3, 0, 3}, {0, 0, 5, 0},
		// Where the limits cross, the low one holds.
		{5, 3, 4, 5}, {5, 3, 9, 5}, {5, 3, 1, 5}, {5, -1, 9, 5},
		// Limits below 0 count as 0.
		{-5, 3, -4, 0}, {-5, 3, 2, 2}, {-5, -3, -4, 0}, {-5, -3, 4, 0}, {math.MinInt, math.MinInt, 7, 0}, {0, 8, -1, 0},
		// Limits above 2^20 count as that.
		{0, size20 - 1, size20, size20 - 1}, {0, size20, size20, size20}, {0, size20 + 1, size20 + 1, size20}, {0, math.MaxInt, math.MaxInt, size20}, {0, math.MaxInt, 7, 7},
		{size20 + 1, 3, 5, size20}, {size20, 3, 5, size20}, {size20 - 1, 3, 5, size20 - 1}, {math.MaxInt, math.MaxInt, 0, size20}, {math.MaxInt, 0, math.MinInt, size20},
		// A size may be any number.
		{2, 8, math.MaxInt, 8}, {2, 8, math.MinInt, 2}, {2, 8, 1 << 40, 8}, {2, 8, -1 << 41, 2},
	} {
		// What else an item is does not matter.
		for _, other := range []int{0, 4, -1, math.MaxInt, math.MinInt} {
			if got := Clamp(it(other, x.low, x.high, other, other), x.n); got != x.want {
				t.Errorf("Clamp(%d to %d, %d) = %d, want %d", x.low, x.high, x.n, got, x.want)
			}
		}
	}
}

func TestShare(t *testing.T) {
	for _, x := range []struct {
		n             int
		weights, want []int
	}{
		{15, of(1, 2), of(5, 10)}, {10, of(1, 1), of(5, 5)}, {7, of(3), of(7)}, {0, of(1, 2), of(0, 0)},
		// What is rounded down is left to those behind, not lost.
		{10, of(1, 2, 0, 1), of(2, 5, 0, 3)}, {11, of(1, 1), of(5, 6)}, {1, of(1, 1, 1), of(0, 0, 1)}, {2, of(1, 1, 1), of(0, 1, 1)}, {5, of(1, 1, 1, 1), of(1, 1, 1, 2)}, {10, of(1, 1, 1), of(3, 3, 4)}, {3, of(1, 5, 1), of(0, 2, 1)},
		// Who has no weight has no part.
		{10, of(0, 1), of(0, 10)}, {10, of(1, 0), of(10, 0)}, {10, of(0, 1, 0, 0), of(0, 10, 0, 0)}, {7, of(-1, 5), of(0, 7)}, {7, of(5, math.MinInt, 5), of(3, 0, 4)},
		// All are 0, if all weights together are.
		{10, of(0, 0), of(0, 0)}, {10, of(0), of(0)}, {10, of(-1, -2), of(0, 0)}, {0, of(0), of(0)}, {math.MaxInt, of(0, math.MinInt), of(0, 0)},
		// None has no parts.
		{7, nil, nil}, {7, of(), nil},
		// A number counts as 0 to 2^26.
		{-3, of(1), of(0)}, {-3, of(1, 2), of(0, 0)}, {math.MinInt, of(1, 2), of(0, 0)},
		{room26 - 1, of(1), of(room26 - 1)}, {room26, of(1), of(room26)}, {room26 + 1, of(1), of(room26)}, {math.MaxInt, of(1, 1), of(room26/2, room26/2)},
		// A weight counts as 0 to 2^30.
		{100, of(1<<30, 1<<30), of(50, 50)}, {100, of(1<<31, 1<<30), of(50, 50)}, {100, of(math.MaxInt, 1<<30), of(50, 50)}, {1 << 26, of(1<<30+5, 1<<30), of(1<<25, 1<<25)},
		{1 << 26, of(1<<30-1<<10, 1<<30), of(1<<25-17, 1<<25+17)}, {100, of(1<<29, 1<<30), of(33, 67)},
		// Of 64 the greatest product is a number yet.
		{room26, many(64, 1<<30), many(64, 1<<20)}, {room26, many(64, math.MaxInt), many(64, 1<<20)}, {64, many(64, 3), many(64, 1)}, {room26, many(63, 1<<30)[:1], of(room26)},
		// Of more there is none.
		{65, many(65, 1), nil}, {65, many(65, 0), nil}, {1000, many(1000, 1), nil},
	} {
		if got := Share(x.n, x.weights); !slices.Equal(got, x.want) {
			t.Errorf("Share(%d, %d) = %d, want %d", x.n, x.weights, got, x.want)
		}
	}
}

// sizing is what is sized, and what should come of it.
type sizing struct {
	l    []Item
	room int
	want []int
}

func check(t *testing.T, all []sizing) {
	t.Helper()
	for _, x := range all {
		if got := Sizes(x.l, x.room); !slices.Equal(got, x.want) {
			t.Errorf("Sizes(%d, %d) = %d, want %d", x.l, x.room, got, x.want)
		}
	}
}

func TestGrowing(t *testing.T) {
	check(t, []sizing{
		{items(free(10, 1, 0), free(10, 2, 0)), 35, of(15, 20)}, {items(free(10, 1, 1), free(10, 1, 1)), 31, of(15, 16)}, {items(free(0, 1, 0)), 9, of(9)},
		// It is by Grow that what is left is shared, whatever Base and Shrink are.
		{items(free(0, 1, 9), free(20, 3, 0)), 40, of(5, 35)}, {items(free(100, 1, 0), free(0, 1, 0)), 120, of(110, 10)},
		// Who doesn't grow stays at its clamped base.
		{items(free(10, 0, 0), free(10, 1, 1)), 30, of(10, 20)}, {items(free(10, 0, 5), free(10, 0, 1)), 30, of(10, 10)}, {items(it(10, 15, 30, 0, 1), free(10, 1, 1)), 40, of(15, 25)}, {items(it(10, 0, 5, 0, 1), free(10, 1, 1)), 40, of(5, 35)},
		// Who has a Base above its limits stays at them.
		{items(it(30, 0, 10, 1, 1), free(10, 1, 1)), 50, of(10, 40)}, {items(it(30, 0, 10, 1, 1)), 50, of(10)}, {items(it(10, 0, 10, 1, 1), free(10, 1, 1)), 50, of(10, 40)},
		// Who is at its high limit leaves the rest to the others.
		{items(it(10, 0, 12, 1, 1), free(10, 1, 1), free(10, 1, 1)), 60, of(12, 24, 24)}, {items(it(10, 0, 12, 1, 1), it(10, 0, 20, 1, 1), free(10, 1, 1)), 60, of(12, 20, 28)}, {items(it(10, 0, 12, 1, 1)), 60, of(12)}, {items(it(10, 0, 12, 1, 1), it(10, 0, 13, 1, 1)), 60, of(12, 13)},
		// Who is at its low limit, above its Base, takes from the others.
		{items(it(0, 20, size20, 1, 1), free(0, 1, 1)), 30, of(20, 10)}, {items(it(10, 25, 30, 1, 1), free(10, 1, 1)), 40, of(25, 15)}, {items(it(0, 20, 3, 1, 1), free(0, 1, 1)), 30, of(20, 10)},
	})
}

func TestShrinking(t *testing.T) {
	check(t, []sizing{
		// It is by Shrink times Base that what is too much is shared, whatever Grow is.
		{items(free(10, 1, 1), free(30, 1, 1)), 20, of(5, 15)}, {items(free(10, 0, 3), free(10, 0, 1)), 12, of(4, 8)}, {items(free(20, 9, 1), free(10, 0, 2)), 20, of(15, 5)}, {items(free(10, 0, 1)), 4, of(4)},
		// What is rounded down for the first one is taken from the next.
		{items(free(10, 0, 1), free(10, 0, 1)), 15, of(8, 7)},
		// Who doesn't shrink stays at its clamped base.
		{items(free(10, 1, 0), free(10, 1, 1)), 15, of(10, 5)}, {items(free(10, 1, 0), free(10, 1, 0)), 15, of(10, 10)}, {items(it(10, 15, 30, 1, 0), free(10, 1, 1)), 20, of(15, 5)}, {items(it(10, 0, 5, 1, 0), free(10, 1, 1)), 12, of(5, 7)},
		// Who has a Base below its limits stays at them.
		{items(it(10, 20, size20, 1, 1), free(10, 1, 1)), 30, of(20, 10)}, {items(it(10, 20, size20, 1, 1), free(10, 1, 1)), 25, of(20, 5)}, {items(it(10, 20, size20, 1, 1)), 5, of(20)}, {items(it(10, 20, 3, 1, 1), free(10, 1, 1)), 25, of(20, 5)},
		// Who is at its low limit takes from the others.
		{items(it(10, 8, size20, 1, 1), free(30, 1, 1)), 20, of(8, 12)}, {items(it(10, 9, size20, 1, 1), it(10, 6, size20, 1, 1), free(10, 1, 1)), 18, of(9, 6, 3)}, {items(it(10, 8, size20, 1, 1)), 2, of(8)}, {items(it(10, 8, size20, 1, 1), it(10, 7, size20, 1, 1)), 2, of(8, 7)},
		// Who is at its high limit, below its Base, leaves the rest to the others.
		{items(it(30, 0, 10, 1, 1), free(10, 1, 1)), 18, of(10, 8)}, {items(it(30, 0, 10, 1, 1), free(10, 1, 1)), 5, of(4, 1)},
		// A room that is just filled shrinks nothing, and nothing is shared of nothing.
		{items(free(10, 1, 1), free(20, 1, 1)), 30, of(10, 20)}, {items(it(30, 0, 10, 1, 1), it(30, 0, 10, 1, 1)), 20, of(10, 10)}, {items(free(0, 1, 1), free(0, 3, 1)), 0, of(0, 0)}, {items(it(10, 20, size20, 1, 1), free(10, 1, 1)), 30, of(20, 10)}, {items(free(10, 1, 1), free(20, 1, 3)), 0, of(0, 0)},
	})
}

// Where clamping makes as much more as less, all are frozen at once; else those
// that it made more, or less, alone: what is free is shared anew by the others.
func TestRounds(t *testing.T) {
	check(t, []sizing{
		{items(it(0, 15, size20, 1, 0), it(0, 0, 5, 1, 0), free(0, 1, 0)), 30, of(15, 5, 10)}, {items(it(20, 15, size20, 0, 1), it(20, 0, 5, 0, 1), free(20, 0, 1)), 30, of(15, 5, 10)},
		{items(it(0, 16, size20, 1, 0), it(0, 0, 5, 1, 0), free(0, 1, 0)), 30, of(16, 5, 9)}, {items(it(0, 14, size20, 1, 0), it(0, 0, 5, 1, 0), free(0, 1, 0)), 30, of(14, 5, 11)},
		// More in all: who was made less is loose again, and need not be at its limit.
		{items(it(0, 28, size20, 1, 0), it(0, 0, 5, 1, 0), free(0, 1, 0)), 30, of(28, 1, 1)},
		// Less in all: who was made more is loose again.
		{items(it(0, 11, size20, 1, 0), it(0, 0, 1, 1, 0), free(0, 1, 0)), 30, of(14, 1, 15)}, {items(it(0, 21, size20, 1, 0), it(0, 0, 1, 1, 0), free(0, 1, 0)), 60, of(29, 1, 30)},
		{items(it(20, 11, size20, 0, 1), it(20, 0, 5, 0, 1), free(20, 0, 1)), 30, of(13, 5, 12)}, {items(it(20, 11, size20, 0, 1), it(20, 0, 1, 0, 1), free(20, 0, 1)), 30, of(15, 1, 14)},
		// Who is loose again may come to a limit in a later round.
		{items(it(0, 15, size20, 1, 0), it(0, 0, 1, 1, 0), free(0, 1, 0)), 30, of(15, 1, 14)}, {items(it(20, 15, size20, 0, 1), it(20, 0, 4, 0, 1), free(20, 0, 1)), 30, of(15, 4, 11)},
		// Each of many rounds freezes one more.
		{items(it(0, 0, 1, 1, 0), it(0, 0, 7, 1, 0), it(0, 0, 15, 1, 0), it(0, 0, 30, 1, 0), free(0, 1, 0)), 100, of(1, 7, 15, 30, 47)},
	})
}

// Numbers that are beyond what they count as count as that.
func TestWhatCounts(t *testing.T) {
	check(t, []sizing{
		{nil, 10, nil}, {items(), -1, nil}, {items(it(0, 0, 0, 0, 0)), 5, of(0)},
		// Sizes.
		{items(it(-5, -5, 2*size20, 1, 1)), 1 << 27, of(size20)}, {items(it(-5, 0, size20, 0, 1)), 9, of(0)}, {items(it(-5, 0, size20, 1, 1), free(1, 1, 1)), 11, of(5, 6)}, {items(it(math.MinInt, math.MinInt, math.MaxInt, 1, 1)), 9, of(9)}, {items(it(5, -9, size20, 1, 1)), 0, of(0)},
		{items(it(5, 0, -1, 1, 1)), 9, of(0)}, {items(it(5, math.MaxInt, 0, 1, 1)), 9, of(size20)}, {items(it(math.MaxInt, 0, math.MaxInt, 0, 0)), 9, of(size20)},
		{items(it(size20+1, 0, size20, 1, 1), free(size20, 1, 1)), 2000, of(1000, 1000)}, {items(it(3*size20, 0, size20, 1, 1), free(size20, 1, 1)), 2000, of(1000, 1000)}, {items(it(size20-1, 0, size20, 0, 0), it(size20+5, 0, size20, 0, 0)), 5, of(size20-1, size20)},
		// A Base above 2^20 is not above a high limit that is, too.
		{items(it(2*size20, 0, 2*size20, 1, 1), free(0, 1, 1)), 2*size20 + 6, of(size20, size20)},
		// Factors.
		{items(free(0, 1000, 0), free(0, 1001, 0)), 100, of(50, 50)}, {items(free(0, math.MaxInt, 0), free(0, 1000, 0)), 100, of(50, 50)}, {items(free(0, 999, 0), free(0, 1000, 0)), 1999, of(999, 1000)}, {items(free(0, 1, 0), free(0, -1, 0)), 100, of(100, 0)}, {items(free(0, -3, 0), free(0, math.MinInt, 0)), 100, of(0, 0)},
		{items(free(100, 0, 1000), free(100, 0, 1001)), 100, of(50, 50)}, {items(free(100, 0, math.MaxInt), free(100, 0, 1000)), 100, of(50, 50)}, {items(free(2000, 0, 999), free(2000, 0, 1000)), 2001, of(1001, 1000)}, {items(free(100, 0, 1), free(100, 0, -1)), 150, of(50, 100)}, {items(free(100, 0, -3), free(100, 0, math.MinInt)), 100, of(100, 100)},
		// Rooms.
		{items(free(10, 1, 1), free(10, 1, 1)), -5, of(0, 0)}, {items(it(10, 2, 20, 1, 1), free(10, 1, 1)), math.MinInt, of(2, 0)}, {items(free(10, 1, 1), free(10, 1, 1)), -1, of(0, 0)}, {items(free(10, 1, 1)), math.MaxInt, of(size20)},
		{many(64, free(0, 1, 1)), math.MaxInt, many(64, size20)}, {many(64, free(0, 1, 1)), room26, many(64, size20)}, {many(64, free(0, 1, 1)), room26 - 64, many(64, size20-1)}, {many(64, free(size20, 1, 1)), 64, many(64, 1)}, {many(64, free(size20, 1, 1000)), 64, many(64, 1)}, {many(64, free(size20, 1, 1000)), 0, many(64, 0)},
		// Of more than 64 there is nothing.
		{many(64, free(10, 1, 1)), 128, many(64, 2)}, {many(65, free(10, 1, 1)), 130, nil}, {many(65, it(0, 0, 0, 0, 0)), 5, nil}, {many(1000, free(10, 1, 1)), 130, nil},
	})
}

// numbers are those about which something changes: nothing, a few, what counts
// at the most, and the ends of what an int can be.
func numbers() []int {
	l := []int{math.MinInt, math.MinInt + 1, math.MaxInt, -1, 0, 1, 2, 5}
	for _, n := range []int{1000, size20, room26, 1 << 30, 1 << 40} {
		l = append(l, n-1, n, n+1, -n)
	}
	return l
}

// some tells numbers, always the same ones: most below most, some of numbers.
func some(most int) func() int {
	source, all := rand.New(rand.NewSource(int64(most))), numbers()
	return func() int {
		if source.Intn(12) == 0 {
			return all[source.Intn(len(all))]
		}
		return source.Intn(most)
	}
}

func checkHolds(t *testing.T, l []Item, room int) {
	t.Helper()
	got := Sizes(l, room)
	if want := wantSizes(l, room); !slices.Equal(got, want) {
		t.Fatalf("Sizes(%d, %d) = %d, want %d", l, room, got, want)
	}
	for i, n := range got {
		if n != wantClamp(l[i], n) {
			t.Fatalf("Sizes(%d, %d) = %d: %d is not within its limits", l, room, got, n)
		}
	}
}

// At all arguments Sizes ends, and is what its sentences tell.
func TestSizesAtAllArguments(t *testing.T) {
	for _, most := range []int{2, 4, 10, 40, 1000, size20 + 2} {
		next := some(most)
		for n := range 65 {
			for range 6 {
				l := make([]Item, n)
				for i := range l {
					l[i] = it(next(), next(), next()+next()%3*most, next(), next())
				}
				checkHolds(t, l, next()*(n+1)/2)
			}
		}
		for range 5000 {
			l := make([]Item, 1+next()&3)
			for i := range l {
				l[i] = it(next(), next()/2, next(), next(), next())
			}
			checkHolds(t, l, next()*2)
		}
	}
	all := numbers()
	for _, a := range all {
		for _, b := range all {
			for _, room := range all {
				checkHolds(t, items(it(a, b, a, b, a), it(b, 0, size20, a, b)), room)
				checkHolds(t, items(it(7, a, b, 1, 1), free(9, a, b), it(a, 3, 8, b, b)), room)
			}
		}
	}
}

// At all arguments Share and Clamp end, and are what their sentences tell.
func TestShareAndClampAtAllArguments(t *testing.T) {
	all := numbers()
	for _, a := range all {
		for _, b := range all {
			for _, n := range all {
				if got, want := Clamp(it(n, a, b, n, n), n), wantClamp(it(n, a, b, n, n), n); got != want {
					t.Fatalf("Clamp(%d to %d, %d) = %d, want %d", a, b, n, got, want)
				}
				for _, weights := range [][]int{of(a, b), of(a, 3, b, 1, a), of(b, a, a)} {
					if got, want := Share(n, weights), wantShare(n, weights); !slices.Equal(got, want) {
						t.Fatalf("Share(%d, %d) = %d, want %d", n, weights, got, want)
					}
				}
			}
		}
	}
	for count := range 70 {
		next := some(count + 1)
		for range 20 {
			n, weights := next()*next(), make([]int, count)
			for i := range weights {
				weights[i] = next()
			}
			if got, want := Share(n, weights), wantShare(n, weights); !slices.Equal(got, want) {
				t.Fatalf("Share(%d, %d) = %d, want %d", n, weights, got, want)
			}
		}
	}
}

// Where all may grow, or shrink, as they like, the room is filled.
func TestTheRoomIsFilled(t *testing.T) {
	next := some(300)
	for n := 1; n <= 64; n++ {
		for range 100 {
			l := make([]Item, n)
			for i := range l {
				l[i] = free(1+next()&0xfff, 1+next()&0xff, 1+next()&0xff)
			}
			room := next() & (size20 - 1)
			all := 0
			for _, size := range Sizes(l, room) {
				all += size
			}
			if all != room {
				t.Fatalf("Sizes(%d, %d) fill %d", l, room, all)
			}
		}
	}
}

// Who asks for no more that are not frozen is told of no more.
func TestLooseEndsWhenNoMoreAreAskedFor(t *testing.T) {
	r := rowOf(items(free(1, 1, 1), free(2, 0, 0), free(3, 1, 1), free(4, 1, 1)), 100)
	for asked := 1; asked <= 3; asked++ {
		bases := []int{}
		for place, x := range r.loose {
			if place != len(bases) {
				t.Errorf("place %d, want %d", place, len(bases))
			}
			bases = append(bases, x.Base)
			if len(bases) == asked {
				break
			}
		}
		if want := of(1, 3, 4)[:asked]; !slices.Equal(bases, want) {
			t.Errorf("told of %d, want %d", bases, want)
		}
	}
}

// Arguments stay as they were, and answers are the caller's own: what becomes of
// one is not seen in another one, nor in an argument.
func TestNothingIsShared(t *testing.T) {
	l, weights := items(it(-5, -5, 2*size20, 5000, -1), free(10, 1, 1), it(7, 9, 3, 1, 1)), of(-1, 1<<31, 3)
	givenItems, givenWeights := slices.Clone(l), slices.Clone(weights)
	sizes, parts := Sizes(l, 100), Share(100, weights)
	Sizes(l, 3)
	Clamp(l[0], 3)
	if !slices.Equal(l, givenItems) || !slices.Equal(weights, givenWeights) {
		t.Errorf("arguments became %d, %d", l, weights)
	}
	wantedSizes, wantedParts := slices.Clone(sizes), slices.Clone(parts)
	otherSizes, otherParts := Sizes(l, 100), Share(100, weights)
	for i := range l {
		l[i], weights[i], otherSizes[i], otherParts[i] = free(77, 7, 7), 77, 77, 77
	}
	if !slices.Equal(sizes, wantedSizes) || !slices.Equal(parts, wantedParts) {
		t.Errorf("answers became %d, %d, want %d, %d", sizes, parts, wantedSizes, wantedParts)
	}
}
