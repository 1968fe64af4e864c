package record

import (
	"math"
	"math/rand"
	"reflect"
	"slices"
	"testing"

	"valance/api"
)

const most = api.Most

// whole is a style none of whose numbers is that of a field beside it.
func whole() api.Style {
	return api.Style{
		Display:   api.ShowColumn,
		Position:  api.PosSticky,
		Overflow:  api.OverClip,
		Width:     px(101),
		Height:    per(102),
		MinWidth:  px(-103),
		MinHeight: per(104),
		MaxWidth:  px(105),
		MaxHeight: per(106),
		Margin:    [4]api.Len{api.Top: px(107), api.Right: per(108), api.Bottom: px(-109), api.Left: per(110)},
		Inset:     [4]api.Len{api.Top: per(111), api.Right: px(112), api.Bottom: per(113), api.Left: px(-114)},
		Padding:   [4]int{api.Top: 115, api.Right: 116, api.Bottom: 117, api.Left: 118},
		Border:    [4]int{api.Top: 119, api.Right: 120, api.Bottom: 121, api.Left: 122},
		Grow:      123,
		Shrink:    124,
		Basis:     per(125),
		Justify:   api.JustEvenly,
		Align:     api.AlignCenter,
		Wrap:      true,
		Gap:       126,
		Layer:     false,
		Z:         -127,
		Snap:      api.SnapMandatory,
		Edge:      api.EdgeEnd,
		NoAnchor:  true,
		NoHit:     false,
		Content:   [2]int{128, 129},
	}
}

// wholeRow is the numbers of whole, written out.
func wholeRow() []int {
	return []int{
		2, 4, 1,
		1, 101, 2, 102, 1, -103, 2, 104, 1, 105, 2, 106,
		1, 107, 2, 108, 1, -109, 2, 110,
		2, 111, 1, 112, 2, 113, 1, -114,
		115, 116, 117, 118,
		119, 120, 121, 122,
		123, 124,
		2, 125,
		5, 2, 1, 126, 0, -127, 1, 3, 1, 0,
		128, 129,
	}
}

func px(n int) api.Len { return api.Len{Kind: api.Px, N: n} }

func per(n int) api.Len { return api.Len{Kind: api.Per, N: n} }

// kindPlaces are where the lengths' kinds stand; each one's N stands behind it.
func kindPlaces() []int {
	return []int{3, 5, 7, 9, 11, 13, 15, 17, 19, 21, 23, 25, 27, 29, 41}
}

// bound is from where to where the number at a place may be.
type bound struct{ at, least, most int }

// bounds are those of all that is not of a length, written out.
func bounds() []bound {
	l := []bound{{0, 0, 3}, {1, 0, 4}, {2, 0, 2}}
	for at := 31; at < 39; at++ {
		l = append(l, bound{at, 0, 1048576})
	}
	return append(l, []bound{
		{39, 0, 1000}, {40, 0, 1000},
		{43, 0, 5}, {44, 0, 3}, {45, 0, 1}, {46, 0, 1048576}, {47, 0, 1}, {48, -1048576, 1048576},
		{49, 0, 2}, {50, 0, 3}, {51, 0, 1}, {52, 0, 1},
		{53, 0, 1048576}, {54, 0, 1048576},
	}...)
}

// truths are where what is true or false stands.
func truths() []int { return []int{45, 47, 51, 52} }

// numbers are those about which something changes: nothing, a few, all bounds,
// and the ends of what an int can be.
func numbers() []int {
	l := []int{math.MinInt, math.MinInt + 1, math.MaxInt, 1 << 32, 1<<32 + 1, 1 << 8}
	for _, n := range []int{0, 1, 2, 3, 4, 5, 6, 1000, 1001, 10000, 999999, 1000000, 1000001, 1<<20 - 1, 1 << 20, 1<<20 + 1, most - 1, most, most + 1} {
		l = append(l, n, -n)
	}
	return l
}

// parts are what a value holds, one by one, as one that may be set.
func parts(v reflect.Value) []reflect.Value {
	l := []reflect.Value{}
	switch v.Kind() {
	case reflect.Struct:
		for i := range v.NumField() {
			l = append(l, parts(v.Field(i))...)
		}
	case reflect.Array:
		for i := range v.Len() {
			l = append(l, parts(v.Index(i))...)
		}
	default:
		l = append(l, v)
	}
	return l
}

// wantPut is by what api.Style itself tells of its fields.
func wantPut(s api.Style) []int {
	l := []int{}
	for _, part := range parts(reflect.ValueOf(s)) {
		switch {
		case part.Kind() != reflect.Bool:
			l = append(l, int(part.Int()))
		case part.Bool():
			l = append(l, 1)
		default:
			l = append(l, 0)
		}
	}
	return l
}

// styleOf is the style that has these numbers, whether or not it may be; what is
// to be true or false is false, if it is neither 0 nor 1.
func styleOf(l []int) api.Style {
	s := api.Style{}
	for i, part := range parts(reflect.ValueOf(&s).Elem()) {
		if part.Kind() == reflect.Bool {
			part.SetBool(l[i] == 1)
		} else {
			part.SetInt(int64(l[i]))
		}
	}
	return s
}

// wantLength is by the document's words.
func wantLength(kind, n int) bool {
	switch kind {
	case 0:
		return n == 0
	case 1:
		return -1<<40 <= n && n <= 1<<40
	case 2:
		return 0 <= n && n <= 1000000
	}
	return false
}

// wantValid is by the document's words, of numbers.
func wantValid(l []int) bool {
	for _, b := range bounds() {
		if l[b.at] < b.least || l[b.at] > b.most {
			return false
		}
	}
	for _, at := range kindPlaces() {
		if !wantLength(l[at], l[at+1]) {
			return false
		}
	}
	return true
}

// with is a row with another number at a place.
func with(l []int, at, n int) []int {
	l = slices.Clone(l)
	l[at] = n
	return l
}

// same holds all calls of one row, and of its style, against the document's words.
func same(t *testing.T, l []int) {
	t.Helper()
	s, e := Get(l)
	if wantValid(l) {
		if e != api.OK || s != styleOf(l) || !slices.Equal(Put(s), l) {
			t.Errorf("Get(%d) = %v, %v", l, s, e)
		}
	} else if e != api.ErrForm || s != (api.Style{}) {
		t.Errorf("Get(%d) = %v, %v, want a zero one, and ErrForm", l, s, e)
	}
	sameStyle(t, styleOf(l))
}

// sameStyle holds all calls of one style against the document's words.
func sameStyle(t *testing.T, s api.Style) {
	t.Helper()
	l := wantPut(s)
	if got := Put(s); !slices.Equal(got, l) {
		t.Errorf("Put(%v) = %d, want %d", s, got, l)
	}
	want := wantValid(l)
	if got := Valid(s); got != want {
		t.Errorf("Valid(%v) = %t, want %t", s, got, want)
	}
	if got, e := Get(Put(s)); want && (got != s || e != api.OK) || !want && (got != api.Style{} || e != api.ErrForm) {
		t.Errorf("Get(Put(%v)) = %v, %v", s, got, e)
	}
}

func TestZeroStyle(t *testing.T) {
	l := make([]int, 55)
	if got := Put(api.Style{}); !slices.Equal(got, l) {
		t.Errorf("Put of a zero style = %d", got)
	}
	if s, e := Get(l); s != (api.Style{}) || e != api.OK {
		t.Errorf("Get of noughts = %v, %v", s, e)
	}
	if !Valid(api.Style{}) {
		t.Error("a zero style is not Valid")
	}
}

func TestFields(t *testing.T) {
	if n := len(wantPut(api.Style{})); Fields != 55 || n != Fields {
		t.Errorf("Fields is %d, and a style has %d", Fields, n)
	}
}

func TestPut(t *testing.T) {
	if got := Put(whole()); !slices.Equal(got, wholeRow()) {
		t.Errorf("Put = %d, want %d", got, wholeRow())
	}
}

func TestGet(t *testing.T) {
	if s, e := Get(wholeRow()); s != whole() || e != api.OK {
		t.Errorf("Get = %v, %v, want %v", s, e, whole())
	}
}

func TestValid(t *testing.T) {
	if !Valid(whole()) {
		t.Error("the whole style is not Valid")
	}
}

// Each field by itself stands where api.Style tells it, and nothing else does.
func TestEachFieldAlone(t *testing.T) {
	for at := range Fields {
		l := with(make([]int, Fields), at, 1)
		if got := Put(styleOf(l)); !slices.Equal(got, l) {
			t.Errorf("Put = %d, want %d", got, l)
		}
	}
}

// Of what the document has bounds for each bound is held, and no other one.
func TestBounds(t *testing.T) {
	for _, row := range [][]int{make([]int, Fields), wholeRow()} {
		for _, b := range bounds() {
			for _, n := range []int{b.least, b.least + 1, b.most - 1, b.most} {
				if s, e := Get(with(row, b.at, n)); e != api.OK || !Valid(s) {
					t.Errorf("%d at %d: %v", n, b.at, e)
				}
			}
			for _, n := range []int{math.MinInt, b.least - 1, b.most + 1, b.most + 1<<32, math.MaxInt} {
				if s, e := Get(with(row, b.at, n)); e != api.ErrForm || s != (api.Style{}) {
					t.Errorf("%d at %d: %v, %v", n, b.at, s, e)
				}
			}
		}
	}
}

// Each of the lengths is held to be as layer 5 has it.
func TestLengths(t *testing.T) {
	kinds := []int{math.MinInt, -1, 0, 1, 2, 3, 1<<32 + 1, math.MaxInt}
	for _, at := range kindPlaces() {
		for _, kind := range kinds {
			for _, n := range numbers() {
				row := with(with(wholeRow(), at, kind), at+1, n)
				if got, want := Valid(styleOf(row)), wantLength(kind, n); got != want {
					t.Errorf("length %d, %d at %d: %t, want %t", kind, n, at, got, want)
				}
				same(t, row)
			}
		}
	}
}

// What is to be true or false is neither, of any other number than 1 and 0.
func TestTruths(t *testing.T) {
	for _, at := range truths() {
		for _, n := range numbers() {
			s, e := Get(with(wholeRow(), at, n))
			switch {
			case n == 0 || n == 1:
				if e != api.OK || Put(s)[at] != n {
					t.Errorf("%d at %d: %v, %v", n, at, s, e)
				}
			case e != api.ErrForm || s != api.Style{}:
				t.Errorf("%d at %d: %v, %v", n, at, s, e)
			}
		}
	}
}

// What is wrong is found, whatever comes behind it.
func TestTwoAreWrong(t *testing.T) {
	for one := range Fields {
		for other := range Fields {
			row := with(with(wholeRow(), one, -1<<50), other, 7)
			if _, e := Get(row); one != other && e != api.ErrForm {
				t.Errorf("wrong at %d: %v", one, e)
			}
			same(t, row)
		}
	}
}

// Too few are told ahead of all that is wrong in them; too many have a form of
// their own, whatever is in them.
func TestHowMany(t *testing.T) {
	for _, n := range []int{0, 3, -1, math.MaxInt, math.MinInt} {
		for many := range 300 {
			want := api.OK
			switch {
			case many < 55:
				want = api.ErrShort
			case many > 55 || n != 0:
				want = api.ErrForm
			}
			if s, e := Get(slices.Repeat([]int{n}, many)); e != want || s != (api.Style{}) {
				t.Errorf("%d numbers of %d: %v, %v, want %v", many, n, s, e, want)
			}
		}
	}
	if s, e := Get(nil); e != api.ErrShort || s != (api.Style{}) {
		t.Errorf("no numbers: %v, %v", s, e)
	}
	row := wholeRow()
	if s, e := Get(row[:54]); e != api.ErrShort || s != (api.Style{}) {
		t.Errorf("one too few: %v, %v", s, e)
	}
	if s, e := Get(append(row, 0)); e != api.ErrForm || s != (api.Style{}) {
		t.Errorf("one too many: %v, %v", s, e)
	}
	if s, e := Get(append(row, row...)); e != api.ErrForm || s != (api.Style{}) {
		t.Errorf("two styles: %v, %v", s, e)
	}
	if s, e := Get(make([]int, 1<<20)); e != api.ErrForm || s != (api.Style{}) {
		t.Errorf("a great many: %v, %v", s, e)
	}
}

// At each place, whatever number stands there, all calls are what the document tells.
func TestEachPlaceAtAllNumbers(t *testing.T) {
	for _, row := range [][]int{make([]int, Fields), wholeRow()} {
		for at := range Fields {
			for _, n := range numbers() {
				same(t, with(row, at, n))
			}
		}
	}
}

// At all arguments Put and Get end, and are what their sentences tell.
func TestAtAllArguments(t *testing.T) {
	source := rand.New(rand.NewSource(1))
	for range 5000 {
		l := make([]int, Fields)
		for at := range l {
			l[at] = numbers()[source.Intn(len(numbers()))]
		}
		same(t, l)
	}
}

// someRow is the numbers of a style that may be.
func someRow(source *rand.Rand) []int {
	l := make([]int, Fields)
	for _, b := range bounds() {
		switch source.Intn(4) {
		case 0:
			l[b.at] = b.least
		case 1:
			l[b.at] = b.most
		default:
			l[b.at] = b.least + source.Intn(b.most-b.least+1)
		}
	}
	for _, at := range kindPlaces() {
		l[at] = source.Intn(3)
		switch l[at] {
		case 1:
			l[at+1] = []int{-most, most, source.Intn(2*most+1) - most}[source.Intn(3)]
		case 2:
			l[at+1] = []int{0, 1000000, source.Intn(1000001)}[source.Intn(3)]
		}
	}
	return l
}

// What is put is got again, and another style has another row.
func TestPutIsGotAgain(t *testing.T) {
	source := rand.New(rand.NewSource(2))
	for range 5000 {
		l := someRow(source)
		s, e := Get(l)
		if e != api.OK || !Valid(s) || s != styleOf(l) || !slices.Equal(Put(s), l) {
			t.Fatalf("Get(%d) = %v, %v", l, s, e)
		}
		at := source.Intn(Fields)
		near := with(l, at, someRow(source)[at])
		if other, e := Get(near); e == api.OK && (other == s) != slices.Equal(near, l) {
			t.Fatalf("Get(%d) = %v, Get(%d) = %v", l, s, near, other)
		}
		same(t, near)
	}
}

// What is handed in is not changed, and no answer is another one's.
func TestNothingIsChangedOrShared(t *testing.T) {
	for _, l := range [][]int{wholeRow(), with(wholeRow(), 45, 7), with(wholeRow(), 0, -1), wholeRow()[:40], append(wholeRow(), 9)} {
		was := slices.Clone(l)
		Get(l)
		if !slices.Equal(l, was) {
			t.Errorf("changed: %d, %d", was, l)
		}
	}
	s, l := whole(), wholeRow()
	first := Put(s)
	got, _ := Get(l)
	for at := range Fields {
		first[at], l[at] = -5, -5
	}
	if !slices.Equal(Put(s), wholeRow()) || s != whole() || got != whole() {
		t.Errorf("shared: %v, %v, %d", s, got, Put(s))
	}
	Valid(s)
	if s != whole() {
		t.Errorf("changed: %v", s)
	}
}
