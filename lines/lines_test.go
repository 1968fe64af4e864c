package lines

import (
	"math"
	"slices"
	"testing"

	"valance/api"
)

const most = api.Most

// numbers are those about which something changes: nothing, a few, the limit,
// and the ends of what an int can be.
func numbers() []int {
	l := []int{math.MinInt, math.MinInt + 1, math.MaxInt}
	for _, n := range []int{0, 1, 2, 5, most - 1, most, most + 1} {
		l = append(l, n, -n)
	}
	return l
}

// of is a list of numbers.
func of(l ...int) []int { return l }

// lines are told by the places at which they end.
func lines(ends ...int) [][2]int {
	l, first := [][2]int{}, 0
	for _, behind := range ends {
		l = append(l, [2]int{first, behind})
		first = behind
	}
	return l
}

// many is n of the same size.
func many(n, size int) []int { return slices.Repeat(of(size), n) }

// cut is written out here, so that it is the limit's own words that are held
// against what comes.
func cut(n int) int { return min(max(n, -1<<40), 1<<40) }

// wantLong is by the document's words: what stands on the line, gaps and all, is
// listed first, and then added.
func wantLong(sizes []int, gap int) int {
	all := []int{}
	for _, size := range sizes {
		all = append(all, gap, size)
	}
	long := 0
	for _, n := range all[min(1, len(all)):] {
		long = cut(long + cut(n))
	}
	return long
}

// wantBreak is by the document's words: for each line it is asked anew, from its
// first one on, how long it would be.
func wantBreak(sizes []int, room, gap int, wrap bool) [][2]int {
	l := [][2]int{}
	for first, behind := 0, 0; first < len(sizes); first = behind {
		behind = first + 1
		for behind < len(sizes) && behind-first < 64 && !(wrap && wantLong(sizes[first:behind+1], gap) > room) {
			behind++
		}
		l = append(l, [2]int{first, behind})
	}
	return l
}

// wantOrder takes, again and again, the first one of those that have the least
// key.
func wantOrder(keys []int) []int {
	l, taken := []int{}, make([]bool, len(keys))
	for range keys {
		least := -1
		for place, key := range keys {
			if !taken[place] && (least < 0 || key < keys[least]) {
				least = place
			}
		}
		taken[least] = true
		l = append(l, least)
	}
	return l
}

func TestMostItems(t *testing.T) {
	if MostItems != 64 {
		t.Errorf("MostItems = %d, want 64", MostItems)
	}
}

func TestLong(t *testing.T) {
	for _, x := range []struct {
		sizes     []int
		gap, want int
	}{
		{of(3, 4, 5), 2, 16}, {of(3, 4, 5), 0, 12}, {of(2, 2), 1, 5}, {of(4, 4), 1, 9}, {of(4, 4, 4), 1, 14}, {of(0, 0, 0), 3, 6},
		// None is 0, whatever the gap is.
		{nil, 5, 0}, {of(), 5, 0}, {nil, math.MaxInt, 0}, {nil, math.MinInt, 0},
		// Ahead of the first one there is no gap, and behind the last one there is none.
		{of(3), 5, 3}, {of(-3), 5, -3}, {of(0), 5, 0}, {of(3), math.MaxInt, 3}, {of(3), math.MinInt, 3},
		// Sizes, and gaps, may be below 0.
		{of(3, -2, 4), 0, 5}, {of(3, 4), -2, 5}, {of(3, 4), -9, -2}, {of(-3, -4), -1, -8}, {of(-3, -4), 1, -6},
		// Those of more than one line are as long as they are.
		{many(65, 2), 1, 194}, {many(1000, 1), 0, 1000}, {many(64, 0), 1, 63},
		// Each is cut, and so is what it comes to.
		{of(most + 1), 0, most}, {of(-most - 1), 0, -most}, {of(math.MaxInt), 0, most}, {of(math.MinInt), 0, -most},
		{of(most, 5), 1, most}, {of(-most, -5), -1, -most}, {of(math.MaxInt, math.MaxInt), math.MaxInt, most}, {of(math.MinInt, math.MinInt), math.MinInt, -most},
		{of(math.MaxInt, math.MinInt), 0, 0}, {of(most+7, -5), 0, most - 5}, {of(5, -most-7), 0, 5 - most}, {of(0, 0), math.MaxInt, most}, {of(0, 0), math.MinInt, -most},
		{of(1, 1), math.MinInt, 2 - most}, {of(most-1, 0), 1, most},
		// One behind another: what is beyond the limit is lost ahead of what comes next.
		{of(most, 5, -3), 0, most - 3}, {of(most, -3, 5), 0, most}, {of(-most, -5, 3), 0, 3 - most},
		// The gap is ahead of the size: each is added by itself.
		{of(most, -5), 7, most - 5}, {of(most, 7), -5, most}, {of(-most, 5), -7, 5 - most}, {of(-most, -7), 5, -most}, {of(most, -5, 2), 2, most - 1},
	} {
		if got := Long(x.sizes, x.gap); got != x.want {
			t.Errorf("Long(%d, %d) = %d, want %d", x.sizes, x.gap, got, x.want)
		}
	}
}

// breaking is what is broken, and where its lines should end.
type breaking struct {
	sizes     []int
	room, gap int
	wrap      bool
	want      [][2]int
}

func (x breaking) check(t *testing.T) {
	t.Helper()
	got := Break(x.sizes, x.room, x.gap, x.wrap)
	if !slices.Equal(got, x.want) {
		t.Errorf("Break(%d, %d, %d, %t) = %d, want %d", x.sizes, x.room, x.gap, x.wrap, got, x.want)
	}
}

func TestBreak(t *testing.T) {
	for _, x := range []breaking{
		{of(4, 4, 4), 9, 1, true, lines(2, 3)}, {of(2, 2, 9, 1), 5, 1, true, lines(2, 3, 4)}, {of(1, 2, 3, 4, 5), 6, 0, true, lines(3, 4, 5)},
		// What fills the room is on the line; what is 1 above it is not.
		{of(4, 4), 8, 0, true, lines(2)}, {of(4, 4), 7, 0, true, lines(1, 2)}, {of(4, 4), 9, 1, true, lines(2)}, {of(4, 4), 8, 1, true, lines(1, 2)},
		{of(3, 3, 3), 13, 2, true, lines(3)}, {of(3, 3, 3), 12, 2, true, lines(2, 3)}, {of(5, 0), 5, 0, true, lines(2)}, {of(5, 0), 5, 1, true, lines(1, 2)},
		// On each line there is no gap ahead of the first one.
		{of(4, 4, 4, 4), 9, 1, true, lines(2, 4)}, {of(9, 9, 9), 9, 5, true, lines(1, 2, 3)}, {of(9, 4, 4, 9), 9, 1, true, lines(1, 3, 4)},
		// Without things there is no line.
		{nil, 5, 1, true, nil}, {of(), 5, 1, false, nil}, {nil, -5, math.MinInt, true, nil},
		// One has a line, whatever the room is.
		{of(3), 5, 1, true, lines(1)}, {of(9), 5, 1, true, lines(1)}, {of(9), -5, 1, true, lines(1)}, {of(9), 5, 1, false, lines(1)}, {of(0), 0, 0, true, lines(1)},
		// What is too long is alone, wherever it comes.
		{of(9, 9), 5, 1, true, lines(1, 2)}, {of(9, 2, 2), 5, 1, true, lines(1, 3)}, {of(2, 2, 9), 5, 1, true, lines(2, 3)}, {of(1, 9, 1), 5, 0, true, lines(1, 2, 3)}, {of(9, 0), 5, 0, true, lines(1, 2)},
		// In no room, or less than that, only what takes none goes together.
		{of(0, 0, 0), 0, 0, true, lines(3)}, {of(0, 0, 0), 0, 1, true, lines(1, 2, 3)}, {of(0, 0), -1, 0, true, lines(1, 2)}, {of(0, 0, 1, 0), 0, 0, true, lines(2, 3, 4)},
	} {
		x.check(t)
	}
}

// Without wrapping there is room for all of them, up to 64.
func TestBreakWithoutWrapping(t *testing.T) {
	for _, x := range []breaking{
		{of(2, 2, 9, 1), 5, 1, false, lines(4)}, {of(9, 9), 5, 1, false, lines(2)}, {of(0, 0), -1, 5, false, lines(2)}, {of(math.MaxInt, math.MaxInt), math.MinInt, math.MaxInt, false, lines(2)},
		{many(64, 9), 5, 1, false, lines(64)}, {many(65, 9), 5, 1, false, lines(64, 65)}, {many(130, 0), 5, 0, false, lines(64, 128, 130)},
	} {
		x.check(t)
	}
}

// A line has 64, however much room there is, and the next one begins anew.
func TestBreakAt64(t *testing.T) {
	for _, x := range []breaking{
		{many(63, 1), 999, 1, true, lines(63)}, {many(64, 1), 999, 1, true, lines(64)}, {many(65, 1), 999, 1, true, lines(64, 65)}, {many(65, 0), 5, 0, true, lines(64, 65)},
		{many(128, 1), 999, 1, true, lines(64, 128)}, {many(129, 1), 999, 1, true, lines(64, 128, 129)}, {many(200, 0), 0, 0, true, lines(64, 128, 192, 200)},
		{many(65, 1), 64, 0, true, lines(64, 65)}, {many(65, 1), 63, 0, true, lines(63, 65)}, {many(64, 1), 127, 1, true, lines(64)}, {many(64, 1), 126, 1, true, lines(63, 64)},
		{append(of(9), many(70, 0)...), 5, 0, true, lines(1, 65, 71)}, {append(many(63, 0), 9, 0), 5, 0, true, lines(63, 64, 65)}, {append(many(64, 0), 9, 0), 5, 0, true, lines(64, 65, 66)},
	} {
		x.check(t)
	}
}

// Sizes, and gaps, below 0 make a line shorter again; but it is over at the first
// one that does not go on it, whatever comes behind.
func TestBreakBelow0(t *testing.T) {
	for _, x := range []breaking{
		{of(3, -2, 4), 5, 0, true, lines(3)}, {of(3, 4, -2), 5, 0, true, lines(1, 3)}, {of(3, 4, -4), 5, 0, true, lines(1, 3)}, {of(9, -5, 1), 5, 0, true, lines(3)}, {of(9, -3, -1), 5, 0, true, lines(1, 3)},
		{of(4, 4, 4), 5, -3, true, lines(2, 3)}, {of(4, 4, 4), 6, -3, true, lines(3)}, {of(9, 1), 5, -5, true, lines(2)}, {of(9, 1), 4, -5, true, lines(1, 2)},
		{of(-3, -3), -6, 0, true, lines(2)}, {of(-3, -3), -7, 0, true, lines(1, 2)}, {of(-3, -3), -5, 1, true, lines(2)}, {of(-3, -3), -6, 1, true, lines(1, 2)},
	} {
		x.check(t)
	}
}

// Beyond the limit a line is as long as Long tells, so that it is never above a
// room that is at the limit, or beyond it.
func TestBreakBeyondTheLimit(t *testing.T) {
	for _, x := range []breaking{
		{of(most, most), most, most, true, lines(2)}, {of(most, most), most - 1, 0, true, lines(1, 2)}, {of(math.MaxInt, math.MaxInt), math.MaxInt, math.MaxInt, true, lines(2)},
		{of(math.MaxInt, math.MaxInt), most, 0, true, lines(2)}, {of(math.MaxInt, 1), most - 1, 0, true, lines(1, 2)}, {of(most+7, -5), most - 5, 0, true, lines(2)}, {of(most+7, -5), most - 6, 0, true, lines(1, 2)},
		{of(most, 5, -3), most - 3, 0, true, lines(1, 3)}, {of(most, -5), most - 5, 7, true, lines(2)}, {of(most, -5), most - 6, 7, true, lines(1, 2)}, {of(5, 5), most, math.MaxInt, true, lines(2)},
		{of(math.MinInt, math.MinInt), -most, 0, true, lines(2)}, {of(math.MinInt, 5), 5 - most, 0, true, lines(2)}, {of(math.MinInt, 5), 4 - most, 0, true, lines(1, 2)},
		// A room is as it is: nothing is below the limit's negative.
		{of(math.MinInt, math.MinInt), -most - 1, 0, true, lines(1, 2)}, {of(math.MinInt, math.MinInt), math.MinInt, math.MinInt, true, lines(1, 2)},
	} {
		x.check(t)
	}
}

func TestOrder(t *testing.T) {
	for _, x := range []struct{ keys, want []int }{
		{of(3, 1, 3, 0, 1), of(3, 1, 4, 0, 2)}, {of(1, 2, 3), of(0, 1, 2)}, {of(3, 2, 1), of(2, 1, 0)}, {of(0, -5, 5), of(1, 0, 2)}, {of(10, 9, 100), of(1, 0, 2)},
		{nil, nil}, {of(), nil}, {of(7), of(0)}, {of(-7), of(0)},
		// Of the same key the one ahead is first.
		{of(7, 7, 7), of(0, 1, 2)}, {of(0, 0), of(0, 1)}, {of(2, 1, 2, 1), of(1, 3, 0, 2)},
		// Keys are not cut, and how far they are from each other may be no number.
		{of(math.MaxInt, math.MinInt), of(1, 0)}, {of(math.MinInt, math.MaxInt), of(0, 1)}, {of(math.MaxInt, -2, 5), of(1, 2, 0)}, {of(1, math.MinInt, -1, math.MaxInt, 0), of(1, 2, 4, 0, 3)},
		{of(most+2, most+1, most), of(2, 1, 0)}, {of(-most-1, -most-2, -most), of(1, 0, 2)}, {of(math.MaxInt, math.MaxInt-1), of(1, 0)}, {of(math.MinInt+1, math.MinInt), of(1, 0)},
	} {
		if got := Order(x.keys); !slices.Equal(got, x.want) {
			t.Errorf("Order(%d) = %d, want %d", x.keys, got, x.want)
		}
	}
}

// Of many that have few keys those of the same key stay one behind another.
func TestOrderOfMany(t *testing.T) {
	for _, n := range []int{11, 12, 13, 20, 21, 63, 64, 65, 300, 1000} {
		for keys := range 7 {
			l := make([]int, n)
			for i := range l {
				l[i] = i * i * 7919 % 1009 % (keys + 1)
			}
			if got, want := Order(l), wantOrder(l); !slices.Equal(got, want) {
				t.Fatalf("Order(%d) = %d, want %d", l, got, want)
			}
		}
	}
}

// At all arguments Long and Break end, and come to what their sentences tell.
func TestAtAllArguments(t *testing.T) {
	check := func(sizes []int, room, gap int) {
		if got, want := Long(sizes, gap), wantLong(sizes, gap); got != want {
			t.Fatalf("Long(%d, %d) = %d, want %d", sizes, gap, got, want)
		}
		for _, wrap := range []bool{false, true} {
			got := Break(sizes, room, gap, wrap)
			if want := wantBreak(sizes, room, gap, wrap); !slices.Equal(got, want) {
				t.Fatalf("Break(%d, %d, %d, %t) = %d, want %d", sizes, room, gap, wrap, got, want)
			}
			holds(t, sizes, room, gap, wrap, got)
		}
	}
	all := numbers()
	for _, a := range all {
		for _, b := range all {
			for _, c := range all {
				for _, room := range all {
					check(of(a, b, c), room, 0)
					check(of(a, b, 3), room, c)
					check(of(a, b, a, 1, b), room, c)
				}
			}
		}
	}
}

// At all arguments Order ends, and is what its sentence tells.
func TestOrderAtAllArguments(t *testing.T) {
	all := numbers()
	for _, a := range all {
		for _, b := range all {
			for _, c := range all {
				keys := of(a, b, c, 0, a)
				if got, want := Order(keys), wantOrder(keys); !slices.Equal(got, want) {
					t.Fatalf("Order(%d) = %d, want %d", keys, got, want)
				}
			}
		}
	}
	if got, want := Order(all), wantOrder(all); !slices.Equal(got, want) {
		t.Errorf("Order(%d) = %d, want %d", all, got, want)
	}
}

// Lists of ordinary sizes, in rooms of all kinds, go on lines as they should.
func TestBreakOfMany(t *testing.T) {
	for _, n := range []int{1, 2, 17, 63, 64, 65, 127, 128, 129, 200} {
		sizes := make([]int, n)
		for i := range sizes {
			sizes[i] = i*i*7919%1009%13 - 1
		}
		for _, room := range []int{-3, 0, 1, 7, 12, 13, 40, 300, 5000} {
			for gap := -2; gap < 5; gap++ {
				for _, wrap := range []bool{false, true} {
					got := Break(sizes, room, gap, wrap)
					breaking{sizes, room, gap, wrap, wantBreak(sizes, room, gap, wrap)}.check(t)
					holds(t, sizes, room, gap, wrap, got)
				}
			}
		}
	}
}

// holds is what holds of lines: each thing is on one, in order; none is without
// things, nor has more than 64; one that wraps, and is too long, has one alone;
// and each has as many as it may.
func holds(t *testing.T, sizes []int, room, gap int, wrap bool, got [][2]int) {
	t.Helper()
	at := 0
	for _, line := range got {
		first, behind := line[0], line[1]
		if first != at || behind <= first || behind > len(sizes) || behind-first > 64 {
			t.Fatalf("Break(%d, %d, %d, %t) = %d: not each is on one line", sizes, room, gap, wrap, got)
		}
		if wrap && behind-first > 1 && Long(sizes[first:behind], gap) > room {
			t.Fatalf("Break(%d, %d, %d, %t) = %d: %d is too long", sizes, room, gap, wrap, got, line)
		}
		if behind < len(sizes) && behind-first < 64 && (!wrap || Long(sizes[first:behind+1], gap) <= room) {
			t.Fatalf("Break(%d, %d, %d, %t) = %d: %d has too few", sizes, room, gap, wrap, got, line)
		}
		at = behind
	}
	if at != len(sizes) {
		t.Fatalf("Break(%d, %d, %d, %t) = %d: some are on no line", sizes, room, gap, wrap, got)
	}
}

// Who asks for no more lines is told no more.
func TestLinesEndWhenNoMoreAreAskedFor(t *testing.T) {
	for asked := 1; asked <= 3; asked++ {
		told := 0
		for range each(of(9, 9, 9), 5, 0, true) {
			told++
			if told == asked {
				break
			}
		}
		if told != asked {
			t.Errorf("%d were asked for, %d were told", asked, told)
		}
	}
}

// Arguments stay as they were, and answers are the caller's own: what becomes of
// one is not seen in another one, nor in an argument.
func TestNothingIsShared(t *testing.T) {
	sizes, keys := of(4, most+5, -3, math.MinInt), of(3, 1, 3, math.MinInt)
	broken, order := Break(sizes, 5, 1, true), Order(keys)
	Long(sizes, 1)
	if !slices.Equal(sizes, of(4, most+5, -3, math.MinInt)) || !slices.Equal(keys, of(3, 1, 3, math.MinInt)) {
		t.Errorf("arguments became %d, %d", sizes, keys)
	}
	wantBroken, want := slices.Clone(broken), slices.Clone(order)
	otherBroken, other := Break(sizes, 5, 1, true), Order(keys)
	for i := range otherBroken {
		otherBroken[i] = [2]int{77, 77}
	}
	for i := range keys {
		sizes[i], keys[i], other[i] = 77, 77, 77
	}
	if !slices.Equal(broken, wantBroken) || !slices.Equal(order, want) {
		t.Errorf("answers became %d, %d, want %d, %d", broken, order, wantBroken, want)
	}
}
