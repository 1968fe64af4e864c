package anchor

import (
	"math"
	"math/rand"
	"slices"
	"testing"

	"valance/api"
)

const most = api.Most

// numbers are those about which something changes: nothing, a few, the limit,
// and the ends of what an int can be.
func numbers() []int {
	l := []int{math.MinInt, math.MinInt + 1, math.MaxInt - 1, math.MaxInt}
	for _, n := range []int{0, 1, 2, 5, most - 1, most, most + 1} {
		l = append(l, n, -n)
	}
	return l
}

// spans are all of numbers, empty ones too.
func spans() []api.Span {
	l := []api.Span{}
	for _, lo := range numbers() {
		for _, hi := range numbers() {
			l = append(l, to(lo, hi))
		}
	}
	return l
}

func to(lo, hi int) api.Span { return api.Span{Lo: lo, Hi: hi} }

func node(up, lo, hi int) Node { return Node{Up: up, At: to(lo, hi)} }

func skipped(up, lo, hi int) Node { return Node{Up: up, At: to(lo, hi), Skip: true} }

// under are nodes of which nothing but their Up is told.
func under(ups ...int) []Node {
	l := []Node{}
	for _, up := range ups {
		l = append(l, Node{Up: up})
	}
	return l
}

// chain is so many nodes, each below the one ahead.
func chain(n, lo, hi int) []Node {
	l := make([]Node, n)
	for i := range l {
		l[i] = node(i-1, lo, hi)
	}
	return l
}

// lists are all lists of so many numbers from lo to hi.
func lists(n, lo, hi int) [][]int {
	if n == 0 {
		return [][]int{nil}
	}
	l := [][]int{}
	for _, ahead := range lists(n-1, lo, hi) {
		for last := lo; last <= hi; last++ {
			l = append(l, append(slices.Clone(ahead), last))
		}
	}
	return l
}

// cut is written out here, so that it is the limit's own words that are held
// against what comes.
func cut(n int) int { return min(max(n, -1<<40), 1<<40) }

// empty is by the document's words.
func empty(s api.Span) bool { return !(s.Hi > s.Lo) }

// wantSight is by the document's words.
func wantSight(s, port api.Span) int {
	if !empty(s) && s.Lo >= port.Lo && s.Hi <= port.Hi {
		return 2
	}
	if !empty(to(max(s.Lo, port.Lo), min(s.Hi, port.Hi))) {
		return 1
	}
	return 0
}

// wantKeep is by the document's words.
func wantKeep(offset, was, now, high int) int {
	if offset == 0 {
		return 0
	}
	n := cut(cut(offset) + cut(cut(now)-cut(was)))
	return max(0, min(n, max(cut(high), 0)))
}

// isAbove tells whether one is above the other, or it itself.
func isAbove(l []Node, one, other int) bool {
	return one == other || l[other].Up >= 0 && isAbove(l, one, l[other].Up)
}

// wantValid is by the document's words.
func wantValid(l []Node) bool {
	for i, x := range l {
		if x.Up == -1 {
			continue
		}
		if x.Up < 0 || x.Up >= i || !isAbove(l, x.Up, i-1) {
			return false
		}
	}
	return true
}

// wantPick is by the document's words.
func wantPick(l []Node, port api.Span) int {
	if !wantValid(l) {
		return -1
	}
	return wantFirst(l, -1, port)
}

// wantFirst is what is taken first of those just below one.
func wantFirst(l []Node, up int, port api.Span) int {
	for i, x := range l {
		if x.Up != up {
			continue
		}
		if taken := wantTaken(l, i, port); taken != -1 {
			return taken
		}
	}
	return -1
}

// wantTaken is what is taken of a node.
func wantTaken(l []Node, i int, port api.Span) int {
	sight := wantSight(l[i].At, port)
	if l[i].Skip || sight == 0 {
		return -1
	}
	if sight == 2 {
		return i
	}
	if taken := wantFirst(l, i, port); taken != -1 {
		return taken
	}
	return i
}

func TestSight(t *testing.T) {
	for _, x := range []struct {
		s, port api.Span
		want    int
	}{
		// Within, and as far as both ends.
		{to(10, 20), to(5, 30), 2}, {to(5, 20), to(5, 30), 2}, {to(10, 30), to(5, 30), 2}, {to(5, 30), to(5, 30), 2}, {to(5, 6), to(5, 30), 2}, {to(29, 30), to(5, 30), 2}, {to(-3, -2), to(-3, 0), 2},
		// More than within.
		{to(4, 20), to(5, 30), 1}, {to(10, 31), to(5, 30), 1}, {to(4, 31), to(5, 30), 1}, {to(0, 6), to(5, 30), 1}, {to(29, 90), to(5, 30), 1}, {to(-5, 5), to(-1, 1), 1}, {to(-5, 5), to(0, 1), 1},
		// Out of it, be it by nothing.
		{to(0, 5), to(5, 30), 0}, {to(30, 40), to(5, 30), 0}, {to(0, 4), to(5, 30), 0}, {to(31, 40), to(5, 30), 0},
		// An empty one is not seen, and nothing is by an empty port.
		{to(10, 10), to(5, 30), 0}, {to(20, 10), to(5, 30), 0}, {to(0, 0), to(-5, 5), 0}, {to(40, 0), to(5, 30), 0}, {to(0, 0), to(0, 0), 0}, {to(10, 20), to(15, 15), 0}, {to(10, 20), to(30, 5), 0}, {to(0, 1), to(0, 0), 0}, {to(10, 20), to(20, 10), 0},
		// Ends are as they are, beyond the limit too.
		{to(most+1, most+2), to(most, most+9), 2}, {to(most+1, most+2), to(0, most+2), 2}, {to(most+1, most+3), to(0, most+2), 1}, {to(most+1, most+3), to(0, most), 0}, {to(math.MinInt, math.MaxInt), to(math.MinInt, math.MaxInt), 2}, {to(math.MinInt, math.MaxInt), to(5, 30), 1}, {to(5, 30), to(math.MinInt, math.MaxInt), 2}, {to(math.MaxInt, math.MinInt), to(math.MinInt, math.MaxInt), 0},
	} {
		if got := Sight(x.s, x.port); got != x.want {
			t.Errorf("Sight(%v, %v) = %d, want %d", x.s, x.port, got, x.want)
		}
	}
}

// At all arguments Sight ends, and is what its sentence tells.
func TestSightAtAllArguments(t *testing.T) {
	for _, s := range spans() {
		for _, port := range spans() {
			if got, want := Sight(s, port), wantSight(s, port); got != want {
				t.Fatalf("Sight(%v, %v) = %d, want %d", s, port, got, want)
			}
		}
	}
}

func TestValid(t *testing.T) {
	for _, x := range []struct {
		ups  []int
		want bool
	}{
		{nil, true}, {[]int{-1}, true}, {[]int{-1, -1, -1}, true},
		// Below the node just ahead, or one above that.
		{[]int{-1, 0}, true}, {[]int{-1, 0, 1, 2, 3}, true}, {[]int{-1, 0, 0, 0}, true}, {[]int{-1, 0, 1, 0}, true}, {[]int{-1, 0, 1, 2, 0, 4, 4, 0, -1, 8}, true}, {[]int{-1, -1, 1, 1}, true}, {[]int{-1, 0, 1, 2, 1, 1, 5, 0}, true},
		// Below one that what follows has been left.
		{[]int{-1, -1, 0}, false}, {[]int{-1, 0, 0, 1}, false}, {[]int{-1, 0, 1, 0, 1}, false}, {[]int{-1, 0, 1, 0, 2}, false}, {[]int{-1, 0, -1, 0}, false}, {[]int{-1, 0, -1, 1}, false}, {[]int{-1, 0, 1, 2, 1, 3}, false},
		// The place of none ahead, or of none at all.
		{[]int{0}, false}, {[]int{1}, false}, {[]int{1, -1}, false}, {[]int{-1, 1}, false}, {[]int{-1, 2, 0}, false}, {[]int{-1, 0, 3, 2}, false}, {[]int{1, 0}, false}, {[]int{-1, 9}, false}, {[]int{-1, math.MaxInt}, false},
		{[]int{-2}, false}, {[]int{-1, -2}, false}, {[]int{-1, 0, -2}, false}, {[]int{-1, -2, 0}, false}, {[]int{math.MinInt}, false}, {[]int{-1, math.MinInt}, false},
		// The first one is as wrong as the last one.
		{[]int{0, -1, -1}, false}, {[]int{-1, 1, -1}, false}, {[]int{-1, -1, 2}, false},
	} {
		if got := Valid(under(x.ups...)); got != x.want {
			t.Errorf("Valid of Ups %d = %v, want %v", x.ups, got, x.want)
		}
	}
}

// Only Up tells whether nodes stand in order.
func TestValidOfAnything(t *testing.T) {
	if !Valid([]Node{skipped(-1, 9, 3), node(0, 0, 0), skipped(0, math.MinInt, math.MaxInt)}) {
		t.Error("nodes that stand in order are not Valid")
	}
}

func TestPick(t *testing.T) {
	for _, x := range []struct {
		l    []Node
		want int
	}{
		{nil, -1}, {[]Node{}, -1},
		// The document's example.
		{[]Node{node(-1, 0, 40), node(0, 10, 20), node(0, 25, 60)}, 1},
		// One alone.
		{[]Node{node(-1, 10, 20)}, 0}, {[]Node{node(-1, 0, 20)}, 0}, {[]Node{node(-1, 20, 90)}, 0}, {[]Node{node(-1, 0, 90)}, 0}, {[]Node{node(-1, 0, 5)}, -1}, {[]Node{node(-1, 30, 40)}, -1}, {[]Node{node(-1, 10, 10)}, -1}, {[]Node{node(-1, 20, 10)}, -1}, {[]Node{skipped(-1, 10, 20)}, -1}, {[]Node{skipped(-1, 0, 90)}, -1},
		// The first of which one comes that is taken, wholly seen or not.
		{[]Node{node(-1, 0, 5), node(-1, 5, 10), node(-1, 10, 15)}, 1}, {[]Node{node(-1, 0, 8), node(-1, 8, 12)}, 0}, {[]Node{node(-1, 20, 40), node(-1, 5, 10)}, 0}, {[]Node{node(-1, 0, 5), node(-1, 7, 7), node(-1, 40, 50), node(-1, 29, 33)}, 3}, {[]Node{skipped(-1, 8, 9), skipped(-1, 0, 90), node(-1, 9, 12)}, 2},
		// Of what is wholly seen it itself, not what is below it.
		{[]Node{node(-1, 5, 30), node(0, 10, 20)}, 0}, {[]Node{node(-1, 0, 40), node(0, 10, 20), node(1, 11, 12)}, 1}, {[]Node{node(-1, 6, 9), node(0, 0, 50), node(1, 6, 8), node(-1, 9, 12)}, 0},
		// Of what is partly seen what is taken first of those just below it.
		{[]Node{node(-1, 0, 40), node(0, 0, 3), node(0, 3, 9), node(0, 9, 12)}, 2}, {[]Node{node(-1, 0, 40), node(0, 0, 9), node(1, 0, 2), node(1, 6, 8), node(0, 9, 12)}, 3}, {[]Node{node(-1, 0, 40), node(0, 0, 9), node(1, 0, 7), node(2, 0, 6), node(3, 0, 5), node(0, 9, 12)}, 3}, {[]Node{node(-1, 0, 40), node(0, 0, 9), node(1, 6, 31), node(2, 40, 50), node(1, 9, 12)}, 2},
		// If nothing is, itself, and none behind it.
		{[]Node{node(-1, 0, 40), node(0, 0, 3), node(0, 3, 5), node(0, 30, 40)}, 0}, {[]Node{node(-1, 0, 40), skipped(0, 6, 9), node(0, 9, 9), node(-1, 9, 12)}, 0}, {[]Node{node(-1, 0, 40), node(0, 0, 9), node(1, 0, 5), node(0, 9, 12)}, 1}, {[]Node{node(-1, 0, 6), node(-1, 6, 8), node(1, 6, 8)}, 0},
		// None below one that is skipped, or not seen.
		{[]Node{skipped(-1, 0, 40), node(0, 10, 20)}, -1}, {[]Node{skipped(-1, 0, 40), node(0, 10, 20), node(1, 11, 12), node(0, 12, 13), node(-1, 8, 60), node(4, 7, 9)}, 5}, {[]Node{node(-1, 0, 4), node(0, 10, 20), node(-1, 9, 11)}, 2}, {[]Node{node(-1, 9, 9), node(0, 10, 20)}, -1}, {[]Node{node(-1, 0, 40), node(0, 30, 40), node(1, 10, 20), node(2, 10, 20), node(0, 20, 50)}, 4}, {[]Node{node(-1, 0, 40), skipped(0, 0, 40), node(1, 10, 20), node(2, 10, 20)}, 0}, {[]Node{node(-1, 0, 40), skipped(0, 0, 40), node(1, 6, 7), node(0, 0, 7), node(3, 1, 2), node(3, 6, 7)}, 5},
		// A node may be out of what it is below.
		{[]Node{node(-1, 0, 6), node(0, 20, 25)}, 1}, {[]Node{node(-1, 20, 90), node(0, 5, 7), node(-1, 5, 7)}, 1},
	} {
		if got := Pick(x.l, to(5, 30)); got != x.want {
			t.Errorf("Pick(%v) = %d, want %d", x.l, got, x.want)
		}
	}
}

// Of nodes that are not Valid none is picked, wherever it is that they are not.
func TestPickOfNotValid(t *testing.T) {
	for _, l := range [][]Node{
		{node(0, 10, 20)}, {node(-2, 10, 20)}, {node(1, 10, 20), node(-1, 10, 20)}, {node(-1, 10, 20), node(1, 10, 20)}, {node(-1, 10, 20), node(-1, 10, 20), node(0, 10, 20)}, {node(-1, 10, 20), node(-1, 10, 20), node(math.MinInt, 10, 20)}, {node(-1, 10, 20), node(math.MaxInt, 0, 0)},
		{node(-1, 0, 40), node(0, 10, 20), node(-1, 0, 0), node(0, 10, 20)}, {skipped(-1, 0, 40), node(0, 0, 0), node(0, 0, 0), skipped(1, 0, 0), node(-1, 10, 20)},
	} {
		if got := Pick(l, to(5, 30)); got != -1 {
			t.Errorf("Pick(%v) = %d, want -1", l, got)
		}
	}
}

// By an empty port nothing is seen.
func TestPickByAnEmptyPort(t *testing.T) {
	l := []Node{node(-1, 0, 40), node(0, 10, 20), node(-1, 5, 5), node(-1, 30, 5)}
	for _, port := range []api.Span{to(0, 0), to(15, 15), to(30, 5), to(math.MaxInt, math.MinInt)} {
		if got := Pick(l, port); got != -1 {
			t.Errorf("Pick by %v = %d, want -1", port, got)
		}
	}
}

func TestKeep(t *testing.T) {
	for _, x := range []struct{ offset, was, now, most, want int }{
		// As much more, or less, as the anchor is further down, or up.
		{10, 5, 9, 100, 14}, {10, 9, 5, 100, 6}, {10, 5, 5, 100, 10}, {10, 20, 25, 100, 15}, {10, -5, 5, 100, 20}, {10, 5, -4, 100, 1}, {1, 7, 8, 100, 2},
		// Not below 0, and not above most.
		{10, 15, 5, 100, 0}, {10, 16, 5, 100, 0}, {10, 14, 5, 100, 1}, {10, 0, 90, 100, 100}, {10, 0, 91, 100, 100}, {10, 0, 89, 100, 99}, {10, 5, 500, 100, 100}, {150, 5, 5, 100, 100}, {150, 55, 5, 100, 100}, {150, 56, 5, 100, 99}, {-10, 5, 5, 100, 0}, {-10, 0, 13, 100, 3},
		// Most below 0 is as 0.
		{10, 5, 9, 0, 0}, {10, 5, 9, -1, 0}, {10, 5, 5, -3, 0}, {10, 5, 9, math.MinInt, 0}, {-10, 5, 5, -20, 0},
		// What is at 0 stays there.
		{0, 5, 9, 100, 0}, {0, 0, 90, 100, 0}, {0, 9, 5, 100, 0}, {0, math.MinInt, math.MaxInt, math.MaxInt, 0}, {0, 5, 9, -7, 0},
		// Nothing is beyond the limit.
		{math.MaxInt, 0, 0, math.MaxInt, most}, {10, math.MinInt, math.MaxInt, math.MaxInt, most}, {most, math.MaxInt, math.MinInt, most, 0}, {10, 0, most + 5, math.MaxInt, most}, {most + 5, most + 9, most - 1, most, most - 1}, {5, most + 9, most + 1, 100, 5}, {math.MinInt, 0, math.MaxInt, most, 0}, {math.MaxInt, 7, 4, most - 9, most - 9},
	} {
		if got := Keep(x.offset, x.was, x.now, x.most); got != x.want {
			t.Errorf("Keep(%d, %d, %d, %d) = %d, want %d", x.offset, x.was, x.now, x.most, got, x.want)
		}
	}
}

// At all arguments Keep ends, and is what its sentence tells.
func TestKeepAtAllArguments(t *testing.T) {
	for _, offset := range numbers() {
		for _, was := range numbers() {
			for _, now := range numbers() {
				for _, high := range numbers() {
					if got, want := Keep(offset, was, now, high), wantKeep(offset, was, now, high); got != want {
						t.Fatalf("Keep(%d, %d, %d, %d) = %d, want %d", offset, was, now, high, got, want)
					}
				}
			}
		}
	}
}

// What is kept stays as far from where the port begins as it was, if that can be.
func TestWhatIsKeptStays(t *testing.T) {
	for offset := -5; offset <= 25; offset++ {
		for was := -10; was <= 30; was++ {
			for now := -10; now <= 30; now++ {
				got := Keep(offset, was, now, 20)
				if got < 0 || got > 20 {
					t.Fatalf("Keep(%d, %d, %d, 20) = %d, which is not within", offset, was, now, got)
				}
				stays := offset + now - was
				if offset != 0 && 0 <= stays && stays <= 20 && now-got != was-offset {
					t.Fatalf("Keep(%d, %d, %d, 20) = %d, where %d would do", offset, was, now, got, stays)
				}
			}
		}
	}
}

// holds holds what was picked against "What holds": it is seen, and what it is
// below is seen, too; and none of them is skipped.
func holds(t *testing.T, l []Node, port api.Span, picked int) {
	t.Helper()
	for up := picked; up != -1; up = l[up].Up {
		if l[up].Skip || wantSight(l[up].At, port) == 0 {
			t.Fatalf("Pick(%v, %v) = %d, but %d is not seen", l, port, picked, up)
		}
	}
}

// same holds Valid and Pick against the document's words.
func same(t *testing.T, l []Node, port api.Span) {
	t.Helper()
	if got, want := Valid(l), wantValid(l); got != want {
		t.Fatalf("Valid(%v) = %v, want %v", l, got, want)
	}
	got, want := Pick(l, port), wantPick(l, port)
	if got != want {
		t.Fatalf("Pick(%v, %v) = %d, want %d", l, port, got, want)
	}
	holds(t, l, port, got)
}

// Of each few Ups, in order or not, Valid is what its sentence tells.
func TestValidOfAllFewNodes(t *testing.T) {
	for n := range 7 {
		for _, ups := range lists(n, -2, n) {
			if got, want := Valid(under(ups...)), wantValid(under(ups...)); got != want {
				t.Fatalf("Valid of Ups %d = %v, want %v", ups, got, want)
			}
		}
	}
}

// Of each tree of a few nodes, of each kind that there is, Pick is what its
// sentence tells.
func TestPickOfAllSmallTrees(t *testing.T) {
	kinds := []Node{skipped(0, 10, 20), node(0, 0, 5), node(0, 0, 6), node(0, 5, 30)}
	for n := range 6 {
		for _, ups := range lists(n, -1, n-2) {
			if !wantValid(under(ups...)) {
				continue
			}
			for _, which := range lists(n, 0, len(kinds)-1) {
				l := under(ups...)
				for i, kind := range which {
					l[i].At, l[i].Skip = kinds[kind].At, kinds[kind].Skip
				}
				same(t, l, to(5, 30))
			}
		}
	}
}

// someUp is where one may be below, of those so far: -1, the last one, or one
// above that; now and then what is none of these.
func someUp(source *rand.Rand, l []Node) int {
	if source.Intn(200) == 0 {
		return source.Intn(len(l)+4) - 2
	}
	up := len(l) - 1
	for up >= 0 && source.Intn(3) == 0 {
		up = l[up].Up
	}
	return max(up, -1)
}

// Of larger trees, some that do not stand in order among them.
func TestPickOfLargerTrees(t *testing.T) {
	source := rand.New(rand.NewSource(1))
	for range 100000 {
		l := []Node{}
		for range source.Intn(30) {
			lo := source.Intn(60) - 20
			x := node(someUp(source, l), lo, lo+source.Intn(30)-2)
			x.Skip = source.Intn(8) == 0
			l = append(l, x)
			if !wantValid(l) {
				break
			}
		}
		lo := source.Intn(20)
		same(t, l, to(lo, lo+source.Intn(30)))
	}
}

// At all arguments Valid and Pick end, and are what their sentences tell.
func TestPickAtAllArguments(t *testing.T) {
	source := rand.New(rand.NewSource(2))
	one := func() int { return numbers()[source.Intn(len(numbers()))] }
	for range 100000 {
		l := []Node{}
		for range source.Intn(6) {
			up := source.Intn(len(l)+1) - 1
			if source.Intn(9) == 0 {
				up = one()
			}
			x := node(up, one(), one())
			x.Skip = source.Intn(6) == 0
			l = append(l, x)
		}
		same(t, l, to(one(), one()))
	}
}

// However deep a tree is, and however often it is left, calls end, and soon.
func TestDeepTrees(t *testing.T) {
	const deep = 500000
	l := chain(deep, 0, 40)
	if !Valid(l) || Pick(l, to(5, 30)) != deep-1 {
		t.Error("a chain that is partly seen")
	}
	l[0].Skip = true
	if Pick(append(l, node(-1, 6, 7)), to(5, 30)) != deep {
		t.Error("a chain that is skipped")
	}
	for range deep {
		l = append(l, node(0, 0, 5))
	}
	if !Valid(l) || Pick(l, to(5, 30)) != -1 {
		t.Error("a chain with much beside it")
	}
	if Valid(append(l, node(deep-1, 6, 7))) || Pick(append(l, node(deep-1, 6, 7)), to(5, 30)) != -1 {
		t.Error("a chain below whose last one something comes too late")
	}
}

// What is handed in is not changed.
func TestNothingIsChanged(t *testing.T) {
	for _, l := range [][]Node{
		{node(-1, 0, 40), skipped(0, 10, 20), node(1, 10, 20), node(0, 25, 60), node(-1, 9, 3)},
		{node(-1, 0, 40), node(-1, 10, 20), node(0, 25, 60)},
	} {
		was := slices.Clone(l)
		first, again := Pick(l, to(5, 30)), Pick(l, to(5, 30))
		Valid(l)
		if !slices.Equal(l, was) || first != again {
			t.Errorf("changed: %v, %v; picked %d, then %d", l, was, first, again)
		}
	}
}
