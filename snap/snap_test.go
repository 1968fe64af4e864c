package snap

import (
	"math"
	"math/rand"
	"slices"
	"testing"

	"valance/api"
)

const most = api.Most

// numbers are those about which something changes: nothing, a few, how near
// proximity is, the limit, and the ends of what an int can be.
func numbers() []int {
	l := []int{math.MinInt, math.MinInt + 1, math.MaxInt}
	for _, n := range []int{0, 1, 2, 5, 6400, 6401, most - 1, most, most + 1} {
		l = append(l, n, -n)
	}
	return l
}

// edges are all that there are, and some that there are not.
func edges() []api.SnapAlign {
	return []api.SnapAlign{math.MinInt, -1, api.EdgeNone, api.EdgeStart, api.EdgeCenter, api.EdgeEnd, 4, math.MaxInt}
}

// kinds are all that there are, and some that there are not.
func kinds() []api.SnapKind {
	return []api.SnapKind{math.MinInt, -1, api.SnapNone, api.SnapMandatory, api.SnapProximity, 3, math.MaxInt}
}

func none(lo, hi int) Area { return area(lo, hi, api.EdgeNone) }

func start(lo, hi int) Area { return area(lo, hi, api.EdgeStart) }

func center(lo, hi int) Area { return area(lo, hi, api.EdgeCenter) }

func end(lo, hi int) Area { return area(lo, hi, api.EdgeEnd) }

func area(lo, hi int, edge api.SnapAlign) Area {
	return Area{At: api.Span{Lo: lo, Hi: hi}, Edge: edge}
}

// starts are areas that snap where they begin.
func starts(at ...int) []Area {
	l := []Area{}
	for _, n := range at {
		l = append(l, start(n, n+3))
	}
	return l
}

// of is a list of numbers.
func of(l ...int) []int { return l }

// cut, and what follows, is written out here, so that it is the limit's own
// words that are held against what comes.
func cut(n int) int { return min(max(n, -1<<40), 1<<40) }

func add(a, b int) int { return cut(cut(a) + cut(b)) }

func sub(a, b int) int { return cut(cut(a) - cut(b)) }

// half is rounded down.
func half(n int) int { return int(math.Floor(float64(n) / 2)) }

// far is how far one is from the other.
func far(a, b int) int {
	if n := sub(a, b); n > 0 {
		return n
	}
	return sub(b, a)
}

// wantAt is by the document's words.
func wantAt(a Area, port int) (int, bool) {
	if port < 0 {
		port = 0
	}
	at := map[api.SnapAlign]int{
		1: cut(a.At.Lo),
		2: half(add(add(a.At.Lo, a.At.Hi), -port)),
		3: sub(a.At.Hi, port),
	}
	n, ok := at[a.Edge]
	return n, ok
}

// wantStops is by the document's words.
func wantStops(l []Area, port, most int) []int {
	stops := []int{}
	for _, a := range l {
		n, ok := wantAt(a, port)
		if ok && 0 <= n && (n <= most || n == 0) {
			stops = append(stops, n)
		}
	}
	return stops
}

// wantBest is the first one of those that no other one is nearer than.
func wantBest(stops []int, want int) int {
	return slices.IndexFunc(stops, func(stop int) bool {
		return !slices.ContainsFunc(stops, func(other int) bool { return far(other, want) < far(stop, want) })
	})
}

// wantRest is by the document's words.
func wantRest(kind api.SnapKind, l []Area, port, most, want int) int {
	liked := max(0, min(cut(want), cut(most)))
	stops := wantStops(l, port, most)
	if len(stops) == 0 {
		return liked
	}
	stop := stops[wantBest(stops, liked)]
	switch {
	case kind == 1:
		return stop
	case kind == 2 && far(stop, liked) <= 6400:
		return stop
	}
	return liked
}

func TestAt(t *testing.T) {
	for _, x := range []struct {
		a    Area
		port int
		want int
	}{
		// The port begins where the area does.
		{start(20, 40), 30, 20}, {start(20, 40), 0, 20}, {start(-5, 40), 30, -5}, {start(0, 1), 7, 0}, {start(20, 20), 30, 20}, {start(20, 3), 30, 20},
		// It ends where the area does.
		{end(20, 90), 30, 60}, {end(20, 90), 0, 90}, {end(20, 40), 30, 10}, {end(20, 29), 30, -1}, {end(-9, -4), 5, -9}, {end(20, 20), 30, -10}, {end(90, 20), 5, 15},
		// Its center is that of the area, or less than 1 ahead of it.
		{center(20, 40), 10, 25}, {center(20, 41), 30, 15}, {center(20, 42), 31, 15}, {center(20, 41), 31, 15}, {center(20, 41), 0, 30}, {center(0, 4), 5, -1}, {center(0, 4), 6, -1}, {center(0, 4), 7, -2}, {center(-4, -1), 0, -3}, {center(30, 30), 8, 26}, {center(40, 20), 10, 25}, {center(0, 1), 1, 0}, {center(0, 0), 0, 0},
		// A port below 0 is as one of 0.
		{start(20, 40), -30, 20}, {end(20, 90), -1, 90}, {end(20, 90), math.MinInt, 90}, {center(20, 41), -1, 30}, {center(20, 40), -30, 30}, {center(20, 40), math.MinInt, 30},
		// Nothing is beyond the limit.
		{start(most+1, 0), 30, most}, {start(math.MinInt, 0), 30, -most}, {start(-most-1, most), 30, -most}, {end(0, most+7), 30, most - 30}, {end(0, math.MinInt), 1, -most}, {end(0, -most), 1, -most}, {end(0, 5), math.MaxInt, 5 - most}, {end(0, math.MaxInt), math.MaxInt, 0},
		{center(most, most), 0, most / 2}, {center(most, most), most, 0}, {center(math.MaxInt, math.MaxInt), 10, most/2 - 5}, {center(math.MinInt, math.MinInt), math.MaxInt, -most / 2}, {center(most, -most), most, -most / 2}, {center(0, 5), math.MaxInt, (4 - most) / 2},
	} {
		if n, ok := At(x.a, x.port); n != x.want || !ok {
			t.Errorf("At(%d, %d) = %d, %v, want %d, true", x.a, x.port, n, ok, x.want)
		}
	}
}

// An area whose edge is none, or one that there is not, has no At.
func TestAtOfNoEdge(t *testing.T) {
	for _, edge := range []api.SnapAlign{api.EdgeNone, -1, 4, 9, math.MinInt, math.MaxInt} {
		for _, port := range of(-5, 0, 30) {
			if n, ok := At(area(20, 40, edge), port); n != 0 || ok {
				t.Errorf("At of edge %d, %d = %d, %v, want 0, false", edge, port, n, ok)
			}
		}
	}
}

func TestStops(t *testing.T) {
	for _, x := range []struct {
		l          []Area
		port, most int
		want       []int
	}{
		{nil, 30, 100, nil}, {starts(), 30, 100, nil},
		// In the areas' order, each as often as it comes.
		{starts(50, 0, 100, 50, 7), 30, 100, of(50, 0, 100, 50, 7)}, {[]Area{start(20, 40), center(20, 41), end(20, 90)}, 30, 100, of(20, 15, 60)}, {[]Area{end(20, 90), center(20, 41), start(20, 40)}, 30, 100, of(60, 15, 20)},
		// Those alone that have one.
		{[]Area{none(20, 40), start(30, 40), area(50, 60, 4), area(50, 60, -1)}, 30, 100, of(30)}, {[]Area{none(0, 0), none(5, 9)}, 30, 100, nil},
		// Those alone that are within.
		{starts(-1, 0, 1, 99, 100, 101), 30, 100, of(0, 1, 99, 100)}, {[]Area{end(0, 29), end(0, 30), end(0, 130), end(0, 131)}, 30, 100, of(0, 100)}, {[]Area{center(0, 29), center(0, 30), center(0, 31), center(0, 231), center(0, 232)}, 30, 100, of(0, 0, 100)}, {starts(500, -5), 30, 100, nil},
		{starts(-1, 0, 1), 30, 0, of(0)}, {starts(-1, 0, 1), 30, -1, of(0)}, {starts(-5, -4, 0, 4), 30, -5, of(0)}, {starts(0, 1), 30, math.MinInt, of(0)}, {starts(1, 2), 30, -1, nil},
		// A port below 0 is as one of 0.
		{[]Area{start(20, 40), center(20, 41), end(20, 90)}, -30, 100, of(20, 30, 90)}, {[]Area{end(20, 100), end(20, 101)}, math.MinInt, 100, of(100)},
		// Nothing is beyond the limit.
		{starts(most, most+1, -most, 3), 30, math.MaxInt, of(most, most, 3)}, {[]Area{start(math.MaxInt, 0), start(math.MinInt, 0)}, 30, most, of(most)}, {starts(most-1, most, most+1), 30, most - 1, of(most - 1)},
	} {
		if got := Stops(x.l, x.port, x.most); !slices.Equal(got, x.want) {
			t.Errorf("Stops(%d, %d, %d) = %d, want %d", x.l, x.port, x.most, got, x.want)
		}
	}
}

// Who ranges over stops may leave off at any of them.
func TestEachLeftOff(t *testing.T) {
	for n, want := range [][]int{of(50), of(50, 7), of(50, 7, 9), of(50, 7, 9)} {
		got := of()
		for stop := range each(starts(50, -1, 7, 9), 30, 100) {
			got = append(got, stop)
			if len(got) > n {
				break
			}
		}
		if !slices.Equal(got, want) {
			t.Errorf("left off behind %d: %d, want %d", n, got, want)
		}
	}
}

func TestBest(t *testing.T) {
	for _, x := range []struct {
		stops      []int
		want, best int
	}{
		{nil, 0, -1}, {of(), 5, -1}, {of(7), 5, 0}, {of(7), -1000, 0},
		{of(0, 100), 60, 1}, {of(0, 100), 49, 0}, {of(0, 100), 51, 1}, {of(100, 0), 60, 0}, {of(3, 8, 5, 9), 5, 2}, {of(3, 8, 5, 9), 900, 3}, {of(3, 8, 5, 9), -900, 0}, {of(9, 8, 5, 3), -900, 3},
		// Of the nearest the first one, on whichever side.
		{of(0, 100), 50, 0}, {of(100, 0), 50, 0}, {of(9, 5, 5, 1), 3, 1}, {of(9, 1, 5, 5), 3, 1}, {of(4, 4, 4), 4, 0}, {of(1, 4, 4), 4, 1}, {of(0, 6, 0, 6), 3, 0}, {of(9, 6, 0, 4, 2), 3, 3},
		// Stops may be below 0, or more than any scroller has.
		{of(-9, -4), -5, 1}, {of(-9, 4), -5, 0}, {of(most, 0), most - 1, 0},
		// Those that are the limit off, or more, are as near as each other.
		{of(-most, 0), most, 0}, {of(-most, 1), most, 1}, {of(0, -most), most, 0}, {of(math.MinInt, -most, 5), math.MaxInt, 2}, {of(math.MinInt, -most, 0), math.MaxInt, 0}, {of(most, 0), -most, 0}, {of(math.MaxInt, -1), math.MinInt, 1}, {of(math.MaxInt, most), 7, 0}, {of(math.MaxInt, most), math.MaxInt, 0}, {of(most-1, math.MaxInt), most + 5, 1}, {of(math.MinInt), math.MaxInt, 0},
	} {
		if got := Best(x.stops, x.want); got != x.best {
			t.Errorf("Best(%d, %d) = %d, want %d", x.stops, x.want, got, x.best)
		}
	}
}

// resting is what comes to rest, and where it should.
type resting struct {
	kind             api.SnapKind
	l                []Area
	port, most, want int
	rest             int
}

func (x resting) check(t *testing.T) {
	t.Helper()
	if got := Rest(x.kind, x.l, x.port, x.most, x.want); got != x.rest {
		t.Errorf("Rest(%d, %d, %d, %d, %d) = %d, want %d", x.kind, x.l, x.port, x.most, x.want, got, x.rest)
	}
}

// Where it does not snap, it rests where it was to go, as far as it can.
func TestRestWithoutSnapping(t *testing.T) {
	for _, kind := range []api.SnapKind{api.SnapNone, -1, 3, 7, math.MinInt, math.MaxInt} {
		for _, l := range [][]Area{nil, starts(0, 40, 100), {none(41, 60)}} {
			for _, x := range [][3]int{{100, 41, 41}, {100, 0, 0}, {100, 100, 100}, {100, 101, 100}, {100, -1, 0}, {0, 5, 0}, {-5, 5, 0}, {-5, -3, 0}, {math.MinInt, 5, 0}, {100, math.MaxInt, 100}, {100, math.MinInt, 0}, {math.MaxInt, math.MaxInt, most}, {most - 1, most, most - 1}} {
				resting{kind, l, 30, x[0], x[1], x[2]}.check(t)
			}
		}
	}
}

// Where there is no stop, it rests where it was to go, as far as it can, even if
// it must snap.
func TestRestWithoutStops(t *testing.T) {
	for _, kind := range []api.SnapKind{api.SnapNone, api.SnapMandatory, api.SnapProximity} {
		for _, l := range [][]Area{nil, {}, starts(-1, 101, 500), {none(41, 60)}, {area(41, 60, 4)}, {end(0, 29), center(0, 29)}} {
			resting{kind, l, 30, 100, 41, 41}.check(t)
			resting{kind, l, 30, 100, 101, 100}.check(t)
			resting{kind, l, 30, 100, -1, 0}.check(t)
		}
		resting{kind, starts(11), 30, 10, 7, 7}.check(t)
		resting{kind, starts(1), 30, -5, 7, 0}.check(t)
	}
}

// Where it must snap, it rests at the stop that is nearest, however far it is.
func TestRestMandatory(t *testing.T) {
	l := []Area{none(41, 42), start(-5, 10), start(20, 40), center(20, 41), end(20, 90), start(500, 600)}
	for _, x := range []resting{
		{0, starts(0, 100), 30, 100, 60, 100}, {0, starts(0, 100), 30, 100, 49, 0}, {0, starts(0, 100), 30, 100, 50, 0}, {0, starts(100, 0), 30, 100, 50, 100}, {0, starts(0, 100), 30, 100, 100, 100},
		{0, l, 30, 100, 0, 15}, {0, l, 30, 100, 17, 15}, {0, l, 30, 100, 18, 20}, {0, l, 30, 100, 40, 20}, {0, l, 30, 100, 41, 60}, {0, l, 30, 100, 900, 60}, {0, l, 30, 100, -900, 15}, {0, l, 30, 1000, 900, 500},
		// It is the nearest one to what is liked, not to what is wanted.
		{0, starts(70, 100), 30, 100, 1000, 100}, {0, []Area{start(30, 0), start(0, 0)}, 30, 100, -1000, 0}, {0, []Area{start(most-9, 0), start(0, 0)}, 30, math.MaxInt, math.MaxInt, most - 9}, {0, starts(1, 2), 30, most, -most, 1}, {0, starts(2, 1), 30, most, -most, 1}, {0, starts(2, 1), 30, most, -2 * most, 1},
		// Far off, it is a stop yet.
		{0, starts(0), 30, 1 << 20, 6401, 0}, {0, starts(0), 30, 1 << 20, 1 << 20, 0}, {0, starts(most), 30, most, 0, most},
		// A port below 0 is as one of 0, and most below 0 as 0.
		{0, []Area{end(0, 40), start(9, 0)}, -30, 100, 35, 40}, {0, []Area{end(0, 40), start(9, 0)}, 10, 100, 35, 30}, {0, starts(-3, 0, 3), 30, -5, 7, 0},
	} {
		x.kind = api.SnapMandatory
		x.check(t)
	}
}

// By proximity it rests at the stop that is nearest, if that is no further off
// than so far; else where it was to go.
func TestRestProximity(t *testing.T) {
	for _, x := range []resting{
		{0, starts(0, 100), 30, 100, 60, 100}, {0, starts(0, 100), 30, 100, 50, 0}, {0, starts(100, 0), 30, 100, 50, 100},
		{0, starts(0), 30, 1 << 20, 6399, 0}, {0, starts(0), 30, 1 << 20, 6400, 0}, {0, starts(0), 30, 1 << 20, 6401, 6401}, {0, starts(9000), 30, 1 << 20, 2601, 9000}, {0, starts(9000), 30, 1 << 20, 2600, 9000}, {0, starts(9000), 30, 1 << 20, 2599, 2599}, {0, starts(9000), 30, 1 << 20, 15400, 9000}, {0, starts(9000), 30, 1 << 20, 15401, 15401},
		{0, starts(0, 20000), 30, 1 << 20, 10000, 10000}, {0, starts(0, 20000), 30, 1 << 20, 13600, 20000}, {0, starts(0, 12800), 30, 1 << 20, 6400, 0}, {0, starts(12800, 0), 30, 1 << 20, 6400, 12800}, {0, starts(0, 12800), 30, 1 << 20, 6401, 12800},
		// It is as far off as what is liked is, not what is wanted.
		{0, starts(93600), 30, 100000, 1 << 30, 93600}, {0, starts(93599), 30, 100000, 1 << 30, 100000}, {0, starts(6400), 30, 100000, -(1 << 30), 6400}, {0, starts(6401), 30, 100000, -(1 << 30), 0}, {0, starts(0), 30, most, most, most}, {0, starts(most), 30, most, 0, 0}, {0, starts(most - 6400), 30, math.MaxInt, math.MaxInt, most - 6400}, {0, starts(most - 6401), 30, math.MaxInt, math.MaxInt, most},
		// A port below 0 is as one of 0, and most below 0 as 0.
		{0, []Area{end(0, 40)}, -30, 100000, 6440, 40}, {0, []Area{end(0, 40)}, -30, 100000, 6441, 6441}, {0, starts(-3, 0, 3), 30, -5, 7, 0},
	} {
		x.kind = api.SnapProximity
		x.check(t)
	}
}

// holds is what holds at all arguments: it rests within; and at a stop, that none
// is nearer than, if it must.
func (x resting) holds(t *testing.T) {
	t.Helper()
	rest, stops := Rest(x.kind, x.l, x.port, x.most, x.want), Stops(x.l, x.port, x.most)
	high := min(max(x.most, 0), 1<<40)
	liked := min(max(x.want, 0), high)
	if rest < 0 || rest > high {
		t.Fatalf("%v rests at %d, which is not within", x, rest)
	}
	if x.kind == api.SnapMandatory && len(stops) > 0 && !slices.Contains(stops, rest) {
		t.Fatalf("%v rests at %d, which is no stop", x, rest)
	}
	if rest == liked {
		return
	}
	for _, stop := range stops {
		if far(stop, liked) < far(rest, liked) {
			t.Fatalf("%v rests at %d, but %d is nearer", x, rest, stop)
		}
	}
}

// same holds a call of each against the document's words.
func same(t *testing.T, l []Area, port, most, want int) {
	t.Helper()
	stops := Stops(l, port, most)
	if w := wantStops(l, port, most); !slices.Equal(stops, w) {
		t.Fatalf("Stops(%d, %d, %d) = %d, want %d", l, port, most, stops, w)
	}
	if got, w := Best(stops, want), wantBest(stops, want); got != w {
		t.Fatalf("Best(%d, %d) = %d, want %d", stops, want, got, w)
	}
	for _, kind := range kinds() {
		got, w := Rest(kind, l, port, most, want), wantRest(kind, l, port, most, want)
		if got != w {
			t.Fatalf("Rest(%d, %d, %d, %d, %d) = %d, want %d", kind, l, port, most, want, got, w)
		}
		resting{kind, l, port, most, want, w}.holds(t)
	}
}

// At all arguments At ends, and is what its sentence tells.
func TestAtAtAllArguments(t *testing.T) {
	for _, lo := range numbers() {
		for _, hi := range numbers() {
			for _, port := range numbers() {
				for _, edge := range edges() {
					a := area(lo, hi, edge)
					n, ok := At(a, port)
					if w, wantOK := wantAt(a, port); n != w || ok != wantOK {
						t.Fatalf("At(%d, %d) = %d, %v, want %d, %v", a, port, n, ok, w, wantOK)
					}
				}
			}
		}
	}
}

// At all arguments Best ends, and is what its sentence tells.
func TestBestAtAllArguments(t *testing.T) {
	for _, a := range numbers() {
		for _, b := range numbers() {
			for _, c := range numbers() {
				for _, want := range numbers() {
					l := of(a, b, c)
					if got, w := Best(l, want), wantBest(l, want); got != w {
						t.Fatalf("Best(%d, %d) = %d, want %d", l, want, got, w)
					}
				}
			}
		}
	}
}

// At all arguments Stops and Rest end, and are what their sentences tell.
func TestRestAtAllArguments(t *testing.T) {
	source := rand.New(rand.NewSource(1))
	one := func() int { return numbers()[source.Intn(len(numbers()))] }
	for range 100000 {
		l := []Area{}
		for range source.Intn(6) {
			l = append(l, area(one(), one(), edges()[source.Intn(len(edges()))]))
		}
		same(t, l, one(), one(), one())
	}
}

// Where numbers are small, and many stops are as near as each other, and where
// they are about as far off as proximity reaches.
func TestRestOfManyStops(t *testing.T) {
	source := rand.New(rand.NewSource(2))
	for _, size := range of(20, 20000) {
		within := func() int { return source.Intn(size) - size/4 }
		for range 50000 {
			l := []Area{}
			for range source.Intn(12) {
				l = append(l, area(within(), within(), edges()[source.Intn(len(edges()))]))
			}
			same(t, l, within(), within(), within())
		}
	}
}

// What is handed in is not changed, and what is answered is nobody else's.
func TestShares(t *testing.T) {
	l, stops := []Area{start(20, 40), none(1, 2), end(20, 90)}, of(9, 5, 1)
	was, wereStops := slices.Clone(l), slices.Clone(stops)
	Rest(api.SnapMandatory, l, 30, 100, 41)
	Best(stops, 3)
	first, second := Stops(l, 30, 100), Stops(l, 30, 100)
	if !slices.Equal(l, was) || !slices.Equal(stops, wereStops) {
		t.Error("changed:", l, stops)
	}
	first[0] = 77
	if !slices.Equal(second, of(20, 60)) || !slices.Equal(Stops(l, 30, 100), of(20, 60)) {
		t.Error("shared:", second)
	}
}
