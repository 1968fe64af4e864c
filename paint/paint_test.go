package paint

import (
	"math"
	"math/rand"
	"slices"
	"testing"
)

// numbers are those about which something changes: nothing, a few, and the ends of
// what an int can be.
func numbers() []int {
	l := []int{math.MinInt, math.MinInt + 1, math.MaxInt - 1, math.MaxInt}
	for _, n := range []int{0, 1, 2, 5, 1 << 20, 1 << 32} {
		l = append(l, n, -n)
	}
	return l
}

// plain is a node that is no layer.
func plain(up int) Node { return Node{Up: up} }

// deaf is a node that is no layer, but tells a Z.
func deaf(up, z int) Node { return Node{Up: up, Z: z} }

// layer is a node that is one.
func layer(up, z int) Node { return Node{Up: up, Layer: true, Z: z} }

// under are nodes of which nothing but their Up is told.
func under(ups ...int) []Node {
	l := []Node{}
	for _, up := range ups {
		l = append(l, plain(up))
	}
	return l
}

// lists are all lists of so many numbers from lo to hi.
func lists(n, lo, hi int) [][]int {
	if n == 0 {
		return [][]int{nil}
	}
	l := [][]int{}
	for _, ahead := range lists(n-1, lo, hi) {
		for last := lo; last <= hi; last++ {
			l = append(l, append(slices.Clone(ahead), last))
		}
	}
	return l
}

// isAbove tells whether one is above the other, or it itself.
func isAbove(l []Node, one, other int) bool {
	return one == other || l[other].Up >= 0 && isAbove(l, one, l[other].Up)
}

// wantValid is by the document's words.
func wantValid(l []Node) bool {
	for i, x := range l {
		if i == 0 && x.Up != -1 {
			return false
		}
		if i > 0 && (x.Up < 0 || x.Up >= i || !isAbove(l, x.Up, i-1)) {
			return false
		}
	}
	return true
}

// wantLayer is by the document's words.
func wantLayer(l []Node, at int) int {
	if !wantValid(l) || at < 0 || at >= len(l) {
		return -1
	}
	up := l[at].Up
	for up > 0 && !l[up].Layer {
		up = l[up].Up
	}
	return up
}

// wantOrder is by the document's words.
func wantOrder(l []Node) []int {
	if !wantValid(l) || len(l) == 0 {
		return nil
	}
	return wantWhole(l, 0)
}

// wantWhole is a layer as a whole, by the document's words.
func wantWhole(l []Node, of int) []int {
	behind, between, ahead := []int{}, []int{}, []int{}
	for i, x := range l {
		switch {
		case wantLayer(l, i) != of:
		case !x.Layer:
			between = append(between, i)
		case x.Z < 0:
			behind = append(behind, i)
		default:
			ahead = append(ahead, i)
		}
	}
	order := append([]int{of}, wantByZ(l, behind)...)
	order = append(order, between...)
	return append(order, wantByZ(l, ahead)...)
}

// wantByZ are layers as wholes, the one of the least Z first, of the same Z the one
// ahead: one by one that one is taken away.
func wantByZ(l []Node, in []int) []int {
	order := []int{}
	for len(in) > 0 {
		least := 0
		for i := range in {
			if l[in[i]].Z < l[in[least]].Z {
				least = i
			}
		}
		order = append(order, wantWhole(l, in[least])...)
		in = slices.Delete(slices.Clone(in), least, least+1)
	}
	return order
}

// way is the layers that a node is in, from the first one on, and itself.
func way(l []Node, at int) []int {
	if at == -1 {
		return nil
	}
	return append(way(l, wantLayer(l, at)), at)
}

// wantBefore is of nodes that are valid, and two of them: where their ways part,
// what is of one layer is held against each other. No order of all is made for it.
func wantBefore(l []Node, a, b int) bool {
	one, other := way(l, a), way(l, b)
	for i := range one {
		if i == len(other) {
			return false
		}
		if one[i] != other[i] {
			return wantLower(l, one[i], other[i])
		}
	}
	return len(one) < len(other)
}

// wantLower tells whether one is painted ahead of another one that is in the same
// layer.
func wantLower(l []Node, a, b int) bool {
	part := func(x Node) int {
		switch {
		case !x.Layer:
			return 1
		case x.Z < 0:
			return 0
		}
		return 2
	}
	x, y := l[a], l[b]
	if part(x) != part(y) {
		return part(x) < part(y)
	}
	if x.Layer && x.Z != y.Z {
		return x.Z < y.Z
	}
	return a < b
}

// same holds all calls against the document's words, and "What holds".
func same(t *testing.T, l []Node) {
	t.Helper()
	if got, want := Valid(l), wantValid(l); got != want {
		t.Fatalf("Valid(%v) = %v, want %v", l, got, want)
	}
	order := Order(l)
	if want := wantOrder(l); !slices.Equal(order, want) {
		t.Fatalf("Order(%v) = %d, want %d", l, order, want)
	}
	for at := -2; at < len(l)+2; at++ {
		if got, want := Layer(l, at), wantLayer(l, at); got != want {
			t.Fatalf("Layer(%v, %d) = %d, want %d", l, at, got, want)
		}
	}
	holds(t, l, order)
}

// holds holds an order against "What holds": each is painted once, and all that is in
// a layer, however deep, just behind it.
func holds(t *testing.T, l []Node, order []int) {
	t.Helper()
	if !wantValid(l) {
		return
	}
	sorted := slices.Sorted(slices.Values(order))
	for i := range l {
		if len(sorted) != len(l) || sorted[i] != i {
			t.Fatalf("Order(%v) = %d: not each once", l, order)
		}
	}
	for i, x := range l {
		if i > 0 && !x.Layer {
			continue
		}
		at := slices.Index(order, i)
		for last := at + 1; last < len(order); last++ {
			if in, was := isAbove(l, i, order[last]), isAbove(l, i, order[last-1]); in && !was {
				t.Fatalf("Order(%v) = %d: %d is not painted together", l, order, i)
			}
		}
		for _, ahead := range order[:at] {
			if isAbove(l, i, ahead) {
				t.Fatalf("Order(%v) = %d: %d is painted ahead of %d, that it is in", l, order, ahead, i)
			}
		}
	}
}

// pairs holds Before against the document's words, of all places and some that there
// are not.
func pairs(t *testing.T, l []Node) {
	t.Helper()
	for a := -2; a < len(l)+2; a++ {
		for b := -2; b < len(l)+2; b++ {
			places := a >= 0 && a < len(l) && b >= 0 && b < len(l)
			want := wantValid(l) && places && wantBefore(l, a, b)
			if got := Before(l, a, b); got != want {
				t.Fatalf("Before(%v, %d, %d) = %v, want %v", l, a, b, got, want)
			}
			if wantValid(l) && places && a != b && Before(l, a, b) == Before(l, b, a) {
				t.Fatalf("of %d and %d of %v not one is painted first", a, b, l)
			}
		}
	}
}

func TestValid(t *testing.T) {
	for _, x := range []struct {
		ups  []int
		want bool
	}{
		{nil, true}, {[]int{-1}, true},
		// Below the node just ahead, or one above that.
		{[]int{-1, 0}, true}, {[]int{-1, 0, 1, 2, 3}, true}, {[]int{-1, 0, 0, 0}, true}, {[]int{-1, 0, 1, 0}, true}, {[]int{-1, 0, 1, 2, 0, 4, 4, 0, 7}, true}, {[]int{-1, 0, 1, 2, 1, 1, 5, 0}, true},
		// The first one alone is below none.
		{[]int{0}, false}, {[]int{1}, false}, {[]int{-2}, false}, {[]int{1, -1}, false}, {[]int{0, 0}, false}, {[]int{-2, 0}, false}, {[]int{math.MinInt}, false}, {[]int{math.MaxInt, 0}, false},
		{[]int{-1, -1}, false}, {[]int{-1, 0, -1}, false}, {[]int{-1, 0, 1, -1, 3}, false}, {[]int{-1, 0, 1, 2, 3, -1}, false},
		// Below one that what follows has been left.
		{[]int{-1, 0, 0, 1}, false}, {[]int{-1, 0, 1, 0, 1}, false}, {[]int{-1, 0, 1, 0, 2}, false}, {[]int{-1, 0, 1, 2, 1, 3}, false}, {[]int{-1, 0, 1, 2, 0, 4, 2, 0}, false},
		// The place of none ahead, or of none at all.
		{[]int{-1, 1}, false}, {[]int{-1, 2, 0}, false}, {[]int{-1, 0, 3, 2}, false}, {[]int{-1, 9}, false}, {[]int{-1, math.MaxInt}, false}, {[]int{-1, -2}, false}, {[]int{-1, 0, -2}, false}, {[]int{-1, 0, 1, -2, 0}, false}, {[]int{-1, math.MinInt}, false}, {[]int{-1, 0, math.MinInt, 0}, false},
	} {
		if got := Valid(under(x.ups...)); got != x.want {
			t.Errorf("Valid of Ups %d = %v, want %v", x.ups, got, x.want)
		}
	}
}

// Only Up tells whether nodes stand in order.
func TestValidOfAnything(t *testing.T) {
	if !Valid([]Node{layer(-1, math.MinInt), deaf(0, math.MaxInt), layer(1, 7), layer(0, -7), deaf(3, -1)}) {
		t.Error("nodes that stand in order are not Valid")
	}
}

func TestOrder(t *testing.T) {
	for _, x := range []struct {
		l    []Node
		want []int
	}{
		// The document's example.
		{[]Node{plain(-1), layer(0, 1), plain(0), layer(0, -1)}, []int{0, 3, 2, 1}},
		// One alone, whatever it tells, and none.
		{[]Node{plain(-1)}, []int{0}}, {[]Node{layer(-1, -5)}, []int{0}}, {[]Node{layer(-1, 5)}, []int{0}}, {nil, nil}, {[]Node{}, nil},
		// What is no layer, in order, however deep it is, and whatever Z it tells.
		{[]Node{plain(-1), plain(0), plain(1), plain(0)}, []int{0, 1, 2, 3}}, {[]Node{plain(-1), deaf(0, 5), deaf(1, -5), deaf(0, 0), deaf(0, -9)}, []int{0, 1, 2, 3, 4}},
		// Layers below 0 behind those, layers from 0 on ahead of them.
		{[]Node{plain(-1), plain(0), layer(0, -1), plain(0)}, []int{0, 2, 1, 3}}, {[]Node{plain(-1), plain(0), layer(0, 0), plain(0)}, []int{0, 1, 3, 2}}, {[]Node{plain(-1), plain(0), layer(0, 1), plain(0)}, []int{0, 1, 3, 2}}, {[]Node{plain(-1), deaf(0, 1), layer(0, 0), deaf(0, -1), deaf(0, 9)}, []int{0, 1, 3, 4, 2}}, {[]Node{plain(-1), deaf(0, -9), layer(0, -1)}, []int{0, 2, 1}},
		// By Z.
		{[]Node{plain(-1), layer(0, 3), layer(0, 0), layer(0, 1), layer(0, 2)}, []int{0, 2, 3, 4, 1}}, {[]Node{plain(-1), layer(0, -1), layer(0, -3), layer(0, -2)}, []int{0, 2, 3, 1}}, {[]Node{plain(-1), layer(0, math.MaxInt), layer(0, math.MinInt), layer(0, 0), plain(0), layer(0, -1)}, []int{0, 2, 5, 4, 3, 1}},
		// Of the same Z in order.
		{[]Node{plain(-1), layer(0, 1), layer(0, 1), layer(0, 0), layer(0, 1), layer(0, 0)}, []int{0, 3, 5, 1, 2, 4}}, {[]Node{plain(-1), layer(0, -1), layer(0, -2), layer(0, -1), layer(0, -2)}, []int{0, 2, 4, 1, 3}},
		// The first node's Z is nothing that is asked.
		{[]Node{layer(-1, 9), layer(0, -1), plain(0), layer(0, 1)}, []int{0, 1, 2, 3}}, {[]Node{deaf(-1, -9), layer(0, -20), plain(0)}, []int{0, 1, 2}},
		// A layer as a whole: nothing in it comes behind, or ahead of, what is beside it.
		{[]Node{plain(-1), layer(0, 1), layer(1, 99), layer(1, -99), layer(0, 2), layer(0, 0)}, []int{0, 5, 1, 3, 2, 4}}, {[]Node{plain(-1), plain(0), layer(0, -1), layer(2, 5), plain(2), layer(2, -5)}, []int{0, 2, 5, 4, 3, 1}}, {[]Node{plain(-1), layer(0, 2), plain(1), layer(2, 0), plain(3), layer(0, 1), plain(5)}, []int{0, 5, 6, 1, 2, 3, 4}},
		// A layer below one that is none is in the layer above that.
		{[]Node{plain(-1), plain(0), layer(1, -1), plain(0)}, []int{0, 2, 1, 3}}, {[]Node{plain(-1), plain(0), layer(1, 5), plain(0), layer(3, 4)}, []int{0, 1, 3, 4, 2}}, {[]Node{plain(-1), layer(0, 1), plain(1), plain(2), layer(3, -1), plain(4), layer(0, 0)}, []int{0, 6, 1, 4, 5, 2, 3}},
		// Layers in layers in layers.
		{[]Node{plain(-1), layer(0, 0), layer(1, 0), layer(2, 0), plain(3), layer(2, -1), layer(1, -1), plain(0)}, []int{0, 7, 1, 6, 2, 5, 3, 4}},
	} {
		if got := Order(x.l); !slices.Equal(got, x.want) {
			t.Errorf("Order(%v) = %d, want %d", x.l, got, x.want)
		}
	}
}

func TestLayer(t *testing.T) {
	l := []Node{plain(-1), plain(0), layer(1, 3), plain(2), plain(3), layer(4, -2), plain(5), plain(2), plain(1), layer(0, 0), layer(9, 0)}
	for at, want := range []int{-1, 0, 0, 2, 2, 2, 5, 2, 0, 0, 9} {
		if got := Layer(l, at); got != want {
			t.Errorf("Layer of %d = %d, want %d", at, got, want)
		}
	}
	// A place that there is not.
	for _, at := range []int{-1, -2, len(l), len(l) + 1, math.MinInt, math.MaxInt} {
		if got := Layer(l, at); got != -1 {
			t.Errorf("Layer of %d = %d, want -1", at, got)
		}
	}
	for _, first := range []Node{plain(-1), layer(-1, 5)} {
		if got := Layer([]Node{first}, 0); got != -1 {
			t.Errorf("Layer of the first node %v = %d, want -1", first, got)
		}
		if got := Layer([]Node{first, plain(0)}, 1); got != 0 {
			t.Errorf("Layer just below the first node %v = %d, want 0", first, got)
		}
	}
}

func TestBefore(t *testing.T) {
	// Painted 0, 3, 4, 2, 1.
	l := []Node{plain(-1), layer(0, 1), plain(0), layer(0, -1), plain(3)}
	for _, x := range []struct {
		a, b int
		want bool
	}{
		{0, 3, true}, {3, 4, true}, {4, 2, true}, {2, 1, true}, {0, 1, true}, {3, 1, true}, {0, 4, true},
		{3, 0, false}, {4, 3, false}, {2, 4, false}, {1, 2, false}, {1, 0, false}, {1, 3, false}, {4, 0, false},
		// None is painted ahead of itself.
		{0, 0, false}, {1, 1, false}, {3, 3, false}, {4, 4, false},
		// A place that there is not.
		{0, 5, false}, {5, 0, false}, {-1, 0, false}, {0, -1, false}, {-1, 1, false}, {1, -1, false}, {-1, -1, false}, {5, 5, false}, {-1, 5, false}, {5, -1, false}, {-2, 3, false}, {3, 6, false}, {math.MinInt, 1, false}, {0, math.MaxInt, false}, {math.MaxInt, 1, false}, {0, math.MinInt, false},
	} {
		if got := Before(l, x.a, x.b); got != x.want {
			t.Errorf("Before of %d and %d = %v, want %v", x.a, x.b, got, x.want)
		}
	}
}

// Of nodes that are not Valid nothing is answered, wherever it is that they are not;
// and of none neither.
func TestNothingIsAnswered(t *testing.T) {
	for _, l := range [][]Node{
		nil, {},
		{plain(0)}, {layer(-2, 1)}, {plain(1), plain(-1)}, {plain(0), plain(0)}, {plain(-1), plain(-1)}, {plain(-1), layer(-1, 3)}, {plain(-1), plain(1)}, {plain(-1), plain(0), plain(-1)}, {plain(-1), layer(0, 1), layer(0, -1), plain(1)}, {plain(-1), plain(0), plain(math.MaxInt), plain(0)}, {plain(-1), plain(0), plain(math.MinInt), plain(0)},
	} {
		if got := Order(l); len(got) != 0 {
			t.Errorf("Order(%v) = %d, want none", l, got)
		}
		for a := -1; a <= len(l); a++ {
			if got := Layer(l, a); got != -1 {
				t.Errorf("Layer(%v, %d) = %d, want -1", l, a, got)
			}
			for b := -1; b <= len(l); b++ {
				if Before(l, a, b) {
					t.Errorf("Before(%v, %d, %d)", l, a, b)
				}
			}
		}
	}
}

// Of each few Ups, in order or not, all is what the sentences tell.
func TestAllFewNodes(t *testing.T) {
	for n := range 7 {
		for _, ups := range lists(n, -2, n) {
			l := under(ups...)
			if got, want := Valid(l), wantValid(l); got != want {
				t.Fatalf("Valid of Ups %d = %v, want %v", ups, got, want)
			}
			if wantValid(l) || n < 5 {
				same(t, l)
				pairs(t, l)
			}
		}
	}
}

// Of each tree of a few nodes, of each kind that there is, all is what the sentences
// tell.
func TestAllSmallTrees(t *testing.T) {
	kinds := []Node{plain(0), deaf(0, -3), layer(0, -2), layer(0, -1), layer(0, 0), layer(0, 1)}
	for n := range 6 {
		for _, ups := range lists(n, -1, n-2) {
			if !wantValid(under(ups...)) {
				continue
			}
			for _, which := range lists(n, 0, len(kinds)-1) {
				l := under(ups...)
				for i, kind := range which {
					l[i].Layer, l[i].Z = kinds[kind].Layer, kinds[kind].Z
				}
				same(t, l)
				if n < 5 {
					pairs(t, l)
				}
			}
		}
	}
}

// someUp is where one may be below, of those so far: the last one, or one above that;
// now and then what is none of these.
func someUp(source *rand.Rand, l []Node) int {
	if source.Intn(200) == 0 {
		return source.Intn(len(l)+4) - 2
	}
	up := len(l) - 1
	for up > 0 && source.Intn(3) == 0 {
		up = l[up].Up
	}
	return up
}

// Of larger trees, some that do not stand in order among them.
func TestLargerTrees(t *testing.T) {
	source := rand.New(rand.NewSource(1))
	for range 10000 {
		l := []Node{}
		for range source.Intn(30) {
			x := deaf(someUp(source, l), source.Intn(7)-3)
			x.Layer = source.Intn(3) != 0
			l = append(l, x)
			if !wantValid(l) {
				break
			}
		}
		same(t, l)
		if source.Intn(20) == 0 {
			pairs(t, l)
		}
	}
}

// Of a layer with much in it those of the same Z come in order, too.
func TestManyInALayer(t *testing.T) {
	source := rand.New(rand.NewSource(2))
	for range 8 {
		l := []Node{plain(-1)}
		for range 300 {
			x := deaf(0, source.Intn(5)-2)
			x.Layer = source.Intn(4) != 0
			l = append(l, x)
		}
		same(t, l)
	}
}

// At all arguments calls end, and are what their sentences tell.
func TestAllArguments(t *testing.T) {
	source := rand.New(rand.NewSource(3))
	one := func() int { return numbers()[source.Intn(len(numbers()))] }
	for range 30000 {
		l := []Node{}
		for range source.Intn(7) {
			up := len(l) - 1
			if source.Intn(3) == 0 {
				up = source.Intn(len(l)+1) - 1
			}
			if source.Intn(15) == 0 {
				up = one()
			}
			l = append(l, Node{Up: up, Layer: source.Intn(4) != 0, Z: one()})
		}
		same(t, l)
		pairs(t, l)
		for _, at := range numbers() {
			if got, want := Layer(l, at), wantLayer(l, at); got != want {
				t.Fatalf("Layer(%v, %d) = %d, want %d", l, at, got, want)
			}
			if b := one(); (at < 0 || at >= len(l) || b < 0 || b >= len(l)) && Before(l, at, b) {
				t.Fatalf("Before(%v, %d, %d)", l, at, b)
			}
		}
	}
}

// However deep a tree is, and however much is in one layer, calls end, and soon.
func TestDeepTrees(t *testing.T) {
	const deep = 500000
	nodes := func(of func(i int) Node) []Node {
		l := make([]Node, deep)
		for i := range l {
			l[i] = of(i)
		}
		return l
	}
	// whole tells what is to be the same of all of these: the first one is painted
	// first, and the one that is told last.
	whole := func(name string, l []Node, last int) {
		order := Order(l)
		if !Valid(l) || len(order) != deep || order[0] != 0 || order[deep-1] != last {
			t.Error(name)
		}
		if !Before(l, 0, last) || Before(l, last, 0) {
			t.Errorf("%s: Before", name)
		}
	}
	chain := nodes(func(i int) Node { return layer(i-1, 1) })
	whole("layers in each other", chain, deep-1)
	whole("layers behind each other", nodes(func(i int) Node { return layer(i-1, -i) }), deep-1)
	plains := nodes(func(i int) Node { return plain(i - 1) })
	whole("nodes below each other", plains, deep-1)
	whole("layers below what is none", nodes(func(i int) Node { return Node{Up: i - 1, Layer: i%2 == 0, Z: -1} }), 1)
	whole("layers in one", nodes(func(i int) Node { return layer(min(i, 1)-1, -i) }), 1)
	whole("layers of one Z", nodes(func(i int) Node { return layer(min(i, 1)-1, 3) }), deep-1)
	if got := Layer(chain, deep-1); got != deep-2 {
		t.Errorf("Layer of the last of layers in each other: %d", got)
	}
	if got := Layer(plains, deep-1); got != 0 {
		t.Errorf("Layer of the last of nodes below each other: %d", got)
	}
	if Valid(append(slices.Clone(chain), plain(0), layer(deep-1, 0))) || len(Order(append(chain, plain(-1)))) != 0 {
		t.Error("nodes that come too late")
	}
}

// What is handed in is not changed, and an answer shares nothing with it, or with
// another one.
func TestNothingIsChanged(t *testing.T) {
	l := []Node{plain(-1), layer(0, 1), plain(0), layer(0, -1), layer(3, -2), plain(3)}
	was, want := slices.Clone(l), []int{0, 3, 4, 5, 2, 1}
	first := Order(l)
	again := Order(l)
	Valid(l)
	Before(l, 1, 2)
	Layer(l, 2)
	if !slices.Equal(l, was) {
		t.Errorf("changed: %v, %v", l, was)
	}
	for i := range first {
		first[i] = -7
	}
	if !slices.Equal(again, want) || !slices.Equal(Order(l), want) {
		t.Errorf("an answer that is changed changes another one: %d, %d", again, Order(l))
	}
	clear(l)
	if !slices.Equal(again, want) {
		t.Errorf("nodes that are changed change an answer: %d", again)
	}
}
