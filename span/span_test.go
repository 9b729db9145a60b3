package span

import (
	"math"
	"math/rand"
	"slices"
	"testing"

	"splittally/api"
)

// The small sets of these tests are bits of a word: bit i stands for the number base + i, i below wide.
const wide = 7

// bases tells where the small sets begin: at 0, within, and so that the last number of them is MaxPn.
func bases() []uint64 { return []uint64{0, 1 << 32, api.MaxPn - wide + 1} }

// row tells spans of pairs.
func row(l ...uint64) []api.Span {
	var out []api.Span
	for i := 0; i+1 < len(l); i += 2 {
		out = append(out, api.Span{Lo: l[i], Hi: l[i+1]})
	}
	return out
}

// rowOf tells the row of a small set, one run of bits after the other.
func rowOf(set int, base uint64) []api.Span {
	var out []api.Span
	for i := range uint64(wide) {
		switch {
		case set>>i&1 == 0:
		case i > 0 && set>>(i-1)&1 == 1:
			out[len(out)-1].Hi++
		default:
			out = append(out, api.Span{Lo: base + i, Hi: base + i})
		}
	}
	return out
}

// spans tells all spans of small numbers.
func spans(base uint64) []api.Span {
	var out []api.Span
	for lo := range uint64(wide) {
		for hi := lo; hi < wide; hi++ {
			out = append(out, api.Span{Lo: base + lo, Hi: base + hi})
		}
	}
	return out
}

// bitsOf tells the small set of spans, whether they are in order or not.
func bitsOf(l []api.Span, base uint64) int {
	set := 0
	for _, s := range l {
		for n := s.Lo; n <= s.Hi; n++ {
			set |= 1 << (n - base)
		}
	}
	return set
}

// noRows tells slices that are not rows, each for one reason, at the beginning, within and at the end.
func noRows() [][]api.Span {
	return [][]api.Span{
		row(3, 1),
		row(1, 0),
		row(0, api.MaxPn+1),
		row(api.MaxPn, api.MaxPn+1),
		row(api.MaxPn+1, api.MaxPn+1),
		row(api.MaxPn, 0),
		row(0, api.Top),
		row(api.Top, api.Top),
		row(api.Top, 0),
		row(1, 3, 4, 9),
		row(1, 3, 3, 9),
		row(1, 3, 2, 9),
		row(1, 3, 1, 3),
		row(1, 9, 3, 5),
		row(5, 9, 1, 2),
		row(5, 9, 1, 3),
		row(5, 9, 0, 4),
		row(1, 3, 5, 4),
		row(1, 3, 7, 5),
		row(3, 1, 5, 9),
		row(0, 0, 1, 1),
		row(0, api.MaxPn, 0, api.MaxPn),
		row(0, api.MaxPn, api.MaxPn, api.MaxPn),
		row(5, api.MaxPn, 1, 3),
		row(5, api.MaxPn, 0, 0),
		row(5, api.MaxPn, api.MaxPn+2, api.MaxPn+3),
		row(0, 1, 5, api.Top),
		row(5, api.Top, 1, 2),
		row(5, api.Top, 0, 0),
		row(1, 3, 5, 7, 8, 9),
		row(1, 3, 5, 7, 2, 2),
		row(1, 3, 4, 4, 6, 9),
		row(1, 3, 5, 7, 9, 8),
		row(1, 3, 5, 7, 9, api.MaxPn+1),
	}
}

// badSpans tells spans that are not valid.
func badSpans() []api.Span {
	return row(3, 2, 1, 0, 0, api.MaxPn+1, api.MaxPn, api.MaxPn+1, api.MaxPn+1, api.MaxPn+1, api.MaxPn+1, 0, 0, api.Top, 1<<63, api.Top, api.Top, api.Top, api.Top, 0)
}

func TestP701Good(t *testing.T) {
	for _, l := range [][]api.Span{
		nil,
		{},
		row(0, 0),
		row(api.MaxPn, api.MaxPn),
		row(0, api.MaxPn),
		row(0, 0, 2, 2),
		row(0, 0, 2, 2, 4, 4, 6, 6),
		row(1, 3, 5, 9),
		row(1, 3, 5, 9, 1<<40, 1<<50),
		row(0, api.MaxPn-2, api.MaxPn, api.MaxPn),
		row(5, 5, api.MaxPn, api.MaxPn),
	} {
		if !Good(l) {
			t.Errorf("Good(%v) is false", l)
		}
	}
	for _, l := range noRows() {
		if Good(l) {
			t.Errorf("Good(%v) is true", l)
		}
	}
}

// What is no row has no elements, and nothing is added to it, cut from it or taken of it.
func TestP701NoRow(t *testing.T) {
	for _, l := range noRows() {
		for _, n := range []uint64{0, 1, 2, 3, 5, 6, 8, 9, api.MaxPn, api.MaxPn + 1, api.Top} {
			if Has(l, n) {
				t.Errorf("Has(%v, %d) is true", l, n)
			}
			if got := From(l, n); len(got) != 0 {
				t.Errorf("From(%v, %d) is %v", l, n, got)
			}
		}
		if got := Count(l); got != 0 {
			t.Errorf("Count(%v) is %d", l, got)
		}
		for _, n := range []int{math.MinInt, -1, 0, 1, 2, 3, 9, math.MaxInt} {
			if got := Last(l, n); len(got) != 0 {
				t.Errorf("Last(%v, %d) is %v", l, n, got)
			}
		}
		for _, s := range append(row(0, 0, 1, 1, 4, 4, 2, 8, 20, 30, 0, api.MaxPn), badSpans()...) {
			if got, ok := Add(l, s); ok || len(got) != 0 {
				t.Errorf("Add(%v, %v) is %v, %v", l, s, got, ok)
			}
			if got, ok := Cut(l, s); ok || len(got) != 0 {
				t.Errorf("Cut(%v, %v) is %v, %v", l, s, got, ok)
			}
		}
	}
}

// Either argument of Within should be a row, also if the other is empty or holds all numbers.
func TestP701NoRowWithin(t *testing.T) {
	for _, bad := range noRows() {
		for _, good := range [][]api.Span{nil, row(1, 1), row(1, 3, 5, 9), row(0, api.MaxPn)} {
			if Within(bad, good) {
				t.Errorf("Within(%v, %v) is true", bad, good)
			}
			if Within(good, bad) {
				t.Errorf("Within(%v, %v) is true", good, bad)
			}
		}
		if Within(bad, bad) {
			t.Errorf("Within(%v, itself) is true", bad)
		}
	}
}

func TestP702Add(t *testing.T) {
	l := row(1, 3, 6, 9)
	for _, x := range []struct {
		l    []api.Span
		s    api.Span
		want []api.Span
	}{
		{nil, api.Span{Lo: 4, Hi: 4}, row(4, 4)},
		{[]api.Span{}, api.Span{Lo: 0, Hi: api.MaxPn}, row(0, api.MaxPn)},
		{nil, api.Span{}, row(0, 0)},
		{l, api.Span{Lo: 4, Hi: 4}, row(1, 4, 6, 9)},
		{l, api.Span{Lo: 5, Hi: 5}, row(1, 3, 5, 9)},
		{l, api.Span{Lo: 4, Hi: 5}, row(1, 9)},
		{l, api.Span{Lo: 3, Hi: 6}, row(1, 9)},
		{l, api.Span{Lo: 0, Hi: 0}, row(0, 3, 6, 9)},
		{l, api.Span{Lo: 0, Hi: 10}, row(0, 10)},
		{l, api.Span{Lo: 0, Hi: 5}, row(0, 9)},
		{l, api.Span{Lo: 10, Hi: 10}, row(1, 3, 6, 10)},
		{l, api.Span{Lo: 11, Hi: 11}, row(1, 3, 6, 9, 11, 11)},
		{l, api.Span{Lo: 2, Hi: 2}, l},
		{l, api.Span{Lo: 6, Hi: 9}, l},
		{row(2, 3, 6, 9), api.Span{Lo: 0, Hi: 0}, row(0, 0, 2, 3, 6, 9)},
		{row(1, 1, 9, 9), api.Span{Lo: 4, Hi: 5}, row(1, 1, 4, 5, 9, 9)},
		{row(1, 1, 3, 3, 5, 5, 7, 7, 9, 9), api.Span{Lo: 4, Hi: 6}, row(1, 1, 3, 7, 9, 9)},
		{row(0, 3), api.Span{Lo: 4, Hi: api.MaxPn}, row(0, api.MaxPn)},
		{row(api.MaxPn, api.MaxPn), api.Span{Lo: 0, Hi: 0}, row(0, 0, api.MaxPn, api.MaxPn)},
		{row(0, 0), api.Span{Lo: api.MaxPn, Hi: api.MaxPn}, row(0, 0, api.MaxPn, api.MaxPn)},
		{row(0, api.MaxPn-2, api.MaxPn, api.MaxPn), api.Span{Lo: api.MaxPn - 1, Hi: api.MaxPn - 1}, row(0, api.MaxPn)},
		{row(0, api.MaxPn), api.Span{Lo: api.MaxPn, Hi: api.MaxPn}, row(0, api.MaxPn)},
	} {
		if got, ok := Add(x.l, x.s); !ok || !slices.Equal(got, x.want) {
			t.Errorf("Add(%v, %v) is %v, %v, want %v", x.l, x.s, got, ok, x.want)
		}
	}
}

func TestP702Cut(t *testing.T) {
	l := row(1, 3, 6, 9)
	for _, x := range []struct {
		l    []api.Span
		s    api.Span
		want []api.Span
	}{
		{nil, api.Span{Lo: 4, Hi: 4}, nil},
		{nil, api.Span{Lo: 0, Hi: api.MaxPn}, nil},
		{l, api.Span{Lo: 0, Hi: 0}, l},
		{l, api.Span{Lo: 4, Hi: 5}, l},
		{l, api.Span{Lo: 10, Hi: api.MaxPn}, l},
		{l, api.Span{Lo: 1, Hi: 1}, row(2, 3, 6, 9)},
		{l, api.Span{Lo: 2, Hi: 2}, row(1, 1, 3, 3, 6, 9)},
		{l, api.Span{Lo: 3, Hi: 3}, row(1, 2, 6, 9)},
		{l, api.Span{Lo: 1, Hi: 3}, row(6, 9)},
		{l, api.Span{Lo: 0, Hi: 5}, row(6, 9)},
		{l, api.Span{Lo: 0, Hi: 6}, row(7, 9)},
		{l, api.Span{Lo: 3, Hi: 6}, row(1, 2, 7, 9)},
		{l, api.Span{Lo: 2, Hi: 8}, row(1, 1, 9, 9)},
		{l, api.Span{Lo: 2, Hi: api.MaxPn}, row(1, 1)},
		{l, api.Span{Lo: 1, Hi: 9}, nil},
		{l, api.Span{Lo: 0, Hi: api.MaxPn}, nil},
		{row(1, 1, 3, 3, 5, 5, 7, 7), api.Span{Lo: 3, Hi: 5}, row(1, 1, 7, 7)},
		{row(0, api.MaxPn), api.Span{Lo: 0, Hi: 0}, row(1, api.MaxPn)},
		{row(0, api.MaxPn), api.Span{Lo: api.MaxPn, Hi: api.MaxPn}, row(0, api.MaxPn-1)},
		{row(0, api.MaxPn), api.Span{Lo: 5, Hi: 5}, row(0, 4, 6, api.MaxPn)},
		{row(0, api.MaxPn), api.Span{Lo: 0, Hi: api.MaxPn}, nil},
	} {
		if got, ok := Cut(x.l, x.s); !ok || !slices.Equal(got, x.want) {
			t.Errorf("Cut(%v, %v) is %v, %v, want %v", x.l, x.s, got, ok, x.want)
		}
	}
}

func TestP702SpanNotValid(t *testing.T) {
	for _, l := range [][]api.Span{nil, row(1, 2), row(1, 3, 6, 9), row(0, api.MaxPn)} {
		for _, s := range badSpans() {
			if got, ok := Add(l, s); ok || len(got) != 0 {
				t.Errorf("Add(%v, %v) is %v, %v", l, s, got, ok)
			}
			if got, ok := Cut(l, s); ok || len(got) != 0 {
				t.Errorf("Cut(%v, %v) is %v, %v", l, s, got, ok)
			}
		}
	}
}

func TestP702Has(t *testing.T) {
	for _, x := range []struct {
		l       []api.Span
		in, out []uint64
	}{
		{nil, nil, []uint64{0, 1, api.MaxPn, api.MaxPn + 1, api.Top}},
		{row(0, 0), []uint64{0}, []uint64{1, api.MaxPn, api.Top}},
		{row(1, 3, 6, 9), []uint64{1, 2, 3, 6, 7, 8, 9}, []uint64{0, 4, 5, 10, 1 << 40, api.Top}},
		{row(1, 1, 3, 3), []uint64{1, 3}, []uint64{0, 2, 4}},
		{row(5, api.MaxPn), []uint64{5, 6, 1 << 61, api.MaxPn}, []uint64{0, 4, api.MaxPn + 1, 1 << 63, api.Top}},
		{row(0, api.MaxPn), []uint64{0, api.MaxPn}, []uint64{api.MaxPn + 1, 3 << 62, api.Top}},
	} {
		for _, n := range x.in {
			if !Has(x.l, n) {
				t.Errorf("Has(%v, %d) is false", x.l, n)
			}
		}
		for _, n := range x.out {
			if Has(x.l, n) {
				t.Errorf("Has(%v, %d) is true", x.l, n)
			}
		}
	}
}

func TestP702Count(t *testing.T) {
	for _, x := range []struct {
		l    []api.Span
		want uint64
	}{
		{nil, 0},
		{[]api.Span{}, 0},
		{row(0, 0), 1},
		{row(api.MaxPn, api.MaxPn), 1},
		{row(4, 7), 4},
		{row(1, 3, 6, 9), 7},
		{row(0, 0, 2, 2, 4, 4), 3},
		{row(0, api.MaxPn), 1 << 62},
		{row(1, api.MaxPn), api.MaxPn},
		{row(0, 9, 11, api.MaxPn), api.MaxPn},
	} {
		if got := Count(x.l); got != x.want {
			t.Errorf("Count(%v) is %d, want %d", x.l, got, x.want)
		}
	}
}

func TestP702Last(t *testing.T) {
	l := row(1, 3, 6, 9, 20, 20)
	for _, x := range []struct {
		l    []api.Span
		n    int
		want []api.Span
	}{
		{l, math.MinInt, nil},
		{l, -1, nil},
		{l, 0, nil},
		{l, 1, row(20, 20)},
		{l, 2, row(6, 9, 20, 20)},
		{l, 3, l},
		{l, 4, l},
		{l, math.MaxInt, l},
		{nil, math.MinInt, nil},
		{nil, 0, nil},
		{nil, 1, nil},
		{nil, math.MaxInt, nil},
	} {
		if got := Last(x.l, x.n); !slices.Equal(got, x.want) {
			t.Errorf("Last(%v, %d) is %v, want %v", x.l, x.n, got, x.want)
		}
	}
}

func TestP702From(t *testing.T) {
	l := row(1, 3, 6, 9)
	for _, x := range []struct {
		l    []api.Span
		lo   uint64
		want []api.Span
	}{
		{l, 0, l},
		{l, 1, l},
		{l, 2, row(2, 3, 6, 9)},
		{l, 3, row(3, 3, 6, 9)},
		{l, 4, row(6, 9)},
		{l, 5, row(6, 9)},
		{l, 6, row(6, 9)},
		{l, 8, row(8, 9)},
		{l, 9, row(9, 9)},
		{l, 10, nil},
		{l, api.Top, nil},
		{nil, 0, nil},
		{nil, api.Top, nil},
		{row(0, api.MaxPn), 0, row(0, api.MaxPn)},
		{row(0, api.MaxPn), api.MaxPn, row(api.MaxPn, api.MaxPn)},
		{row(0, api.MaxPn), api.MaxPn + 1, nil},
		{row(0, api.MaxPn), api.Top, nil},
	} {
		if got := From(x.l, x.lo); !slices.Equal(got, x.want) {
			t.Errorf("From(%v, %d) is %v, want %v", x.l, x.lo, got, x.want)
		}
	}
}

func TestP702Within(t *testing.T) {
	l := row(1, 3, 6, 9)
	for _, x := range []struct {
		a, b []api.Span
		want bool
	}{
		{nil, nil, true},
		{nil, []api.Span{}, true},
		{nil, l, true},
		{l, nil, false},
		{row(0, 0), nil, false},
		{l, l, true},
		{row(1, 1, 3, 3, 7, 9), l, true},
		{row(6, 6, 8, 8), l, true},
		{row(3, 6), l, false},
		{row(4, 4), l, false},
		{row(4, 5), l, false},
		{row(1, 9), l, false},
		{row(0, 1), l, false},
		{row(3, 4), l, false},
		{row(5, 6), l, false},
		{row(9, 10), l, false},
		{row(11, 11), l, false},
		{row(2, 2, 5, 5, 8, 8), l, false},
		{l, row(0, 10), true},
		{l, row(0, api.MaxPn), true},
		{l, row(1, 9), true},
		{row(0, api.MaxPn), l, false},
		{row(0, api.MaxPn), row(0, api.MaxPn), true},
		{row(0, api.MaxPn), row(0, api.MaxPn-1), false},
		{row(api.MaxPn, api.MaxPn), row(0, 0, api.MaxPn, api.MaxPn), true},
	} {
		if got := Within(x.a, x.b); got != x.want {
			t.Errorf("Within(%v, %v) is %v", x.a, x.b, got)
		}
	}
}

// Each call on each small set and each small span against the bits of the sets.
func TestP702Exact(t *testing.T) {
	for _, base := range bases() {
		all := spans(base)
		for set := range 1 << wide {
			l := rowOf(set, base)
			for _, s := range all {
				bits := bitsOf([]api.Span{s}, base)
				if got, ok := Add(l, s); !ok || !slices.Equal(got, rowOf(set|bits, base)) {
					t.Errorf("Add(%v, %v) is %v, %v", l, s, got, ok)
				}
				if got, ok := Cut(l, s); !ok || !slices.Equal(got, rowOf(set&^bits, base)) {
					t.Errorf("Cut(%v, %v) is %v, %v", l, s, got, ok)
				}
			}
			checkNumbers(t, l, set, base)
			for other := range 1 << wide {
				if m := rowOf(other, base); Within(m, l) != (other&^set == 0) {
					t.Errorf("Within(%v, %v) is %v", m, l, Within(m, l))
				}
			}
		}
	}
}

// checkNumbers asks for each small number, and for how many there are.
func checkNumbers(t *testing.T, l []api.Span, set int, base uint64) {
	t.Helper()
	var count uint64
	for i := range wide {
		n := base + uint64(i)
		if Has(l, n) != (set>>i&1 == 1) {
			t.Errorf("Has(%v, %d) is %v", l, n, Has(l, n))
		}
		if got, want := From(l, n), rowOf(set>>i<<i, base); !slices.Equal(got, want) {
			t.Errorf("From(%v, %d) is %v, want %v", l, n, got, want)
		}
		count += uint64(set >> i & 1)
	}
	if got := Count(l); got != count {
		t.Errorf("Count(%v) is %d, want %d", l, got, count)
	}
	for n := range len(l) + 2 {
		if got, want := Last(l, n), l[len(l)-min(n, len(l)):]; !slices.Equal(got, want) {
			t.Errorf("Last(%v, %d) is %v, want %v", l, n, got, want)
		}
	}
}

// The caller finds its spans, and the spare capacity behind them, as they were, and may write into what it was given.
func TestP702SharesNothing(t *testing.T) {
	whole := row(1, 3, 6, 9, 20, 21, 30, 31)
	answers := []struct {
		name string
		f    func(l []api.Span) []api.Span
	}{
		{"Add between", func(l []api.Span) []api.Span { a, _ := Add(l, api.Span{Lo: 4, Hi: 4}); return a }},
		{"Add behind", func(l []api.Span) []api.Span { a, _ := Add(l, api.Span{Lo: 50, Hi: 50}); return a }},
		{"Add of what is there", func(l []api.Span) []api.Span { a, _ := Add(l, api.Span{Lo: 7, Hi: 7}); return a }},
		{"Add of all", func(l []api.Span) []api.Span { a, _ := Add(l, api.Span{Lo: 0, Hi: 40}); return a }},
		{"Cut within", func(l []api.Span) []api.Span { a, _ := Cut(l, api.Span{Lo: 2, Hi: 2}); return a }},
		{"Cut of nothing", func(l []api.Span) []api.Span { a, _ := Cut(l, api.Span{Lo: 4, Hi: 4}); return a }},
		{"Last", func(l []api.Span) []api.Span { return Last(l, 1) }},
		{"Last of all", func(l []api.Span) []api.Span { return Last(l, 9) }},
		{"From", func(l []api.Span) []api.Span { return From(l, 6) }},
		{"From 0", func(l []api.Span) []api.Span { return From(l, 0) }},
	}
	for _, x := range answers {
		for n := range len(whole) + 1 {
			given := slices.Clone(whole)
			first := x.f(given[:n])
			if !slices.Equal(given, whole) {
				t.Errorf("%s of %v left %v", x.name, whole[:n], given)
			}
			want := slices.Clone(first)
			clear(first[:cap(first)])
			if !slices.Equal(given, whole) {
				t.Errorf("the answer of %s of %v is its argument", x.name, whole[:n])
			}
			if got := x.f(given[:n]); !slices.Equal(got, want) {
				t.Errorf("%s of %v is %v, then %v", x.name, whole[:n], want, got)
			}
		}
	}
}

// Of all slices of small spans, in any order, those that are rows are as many as the small sets, and no two tell the same set.
func TestP703OneRowEach(t *testing.T) {
	for _, base := range bases() {
		seen := map[int]int{}
		all := spans(base)
		visit := func(l []api.Span) {
			set := bitsOf(l, base)
			if want := slices.Equal(l, rowOf(set, base)); Good(l) != want {
				t.Errorf("Good(%v) is %v", l, !want)
			}
			if Good(l) {
				seen[set]++
			}
		}
		visit(nil)
		for _, a := range all {
			visit([]api.Span{a})
			for _, b := range all {
				visit([]api.Span{a, b})
				for _, c := range all {
					visit([]api.Span{a, b, c})
				}
			}
		}
		// The one small set of four spans is not among these slices.
		if len(seen) != 1<<wide-1 {
			t.Errorf("from %d on, %d small sets have a row of at most three spans, want %d", base, len(seen), 1<<wide-1)
		}
		for set, n := range seen {
			if n != 1 {
				t.Errorf("from %d on, the set %b has %d rows", base, set, n)
			}
		}
	}
}

// Whatever is added and cut in whatever order, equal sets have equal rows.
func TestP703EveryOrder(t *testing.T) {
	r := rand.New(rand.NewSource(9))
	for _, base := range bases() {
		all := spans(base)
		for range 200 {
			var l []api.Span
			set := 0
			for range 30 {
				s := all[r.Intn(len(all))]
				bits, ok := bitsOf([]api.Span{s}, base), false
				if r.Intn(2) == 0 {
					l, ok = Add(l, s)
					set |= bits
				} else {
					l, ok = Cut(l, s)
					set &^= bits
				}
				if !ok || !Good(l) || !slices.Equal(l, rowOf(set, base)) {
					t.Fatalf("the row of the set %b from %d on is %v, %v", set, base, l, ok)
				}
			}
		}
	}
}

// Two rows that hold each other are the same row.
func TestP703WithinEachOther(t *testing.T) {
	for _, base := range bases() {
		for a := range 1 << wide {
			for b := range 1 << wide {
				l, m := rowOf(a, base), rowOf(b, base)
				if (Within(l, m) && Within(m, l)) != slices.Equal(l, m) {
					t.Errorf("%v and %v are within each other", l, m)
				}
			}
		}
	}
}
