package fold

import (
	"math"
	"math/rand"
	"slices"
	"testing"
)

const top = 1<<64 - 1

// nonces tells slices of nonces: none, one, the edges of the range, pairs that cancel each other out, and draws of every bit length from a fixed seed.
func nonces() [][]uint64 {
	l := [][]uint64{nil, {}, {0}, {5}, {top}, {5, 3}, {3, 5}, {7, 7}, {0, 0, 0}, {1, 2, 3}, {top, top, top}, {1 << 63, 1, top}, {9, 9, 4, 9, 9}}
	r := rand.New(rand.NewSource(10))
	for n := range 24 {
		var drawn []uint64
		for range n {
			drawn = append(drawn, r.Uint64()>>r.Intn(64))
		}
		l = append(l, drawn)
	}
	return l
}

// coins tells nil and all slices of at most 7 coins.
func coins() [][]bool {
	l := [][]bool{nil}
	for n := range 8 {
		for set := range 1 << n {
			l = append(l, flips(set, n))
		}
	}
	return l
}

// flips tells n coins: coin i is bit i of set.
func flips(set, n int) []bool {
	l := make([]bool, n)
	for i := range l {
		l[i] = set>>i&1 == 1
	}
	return l
}

// xor tells the exclusive or of l bit by bit, each bit by counting.
func xor(l []uint64) uint64 {
	var x uint64
	for bit := range 64 {
		ones := 0
		for _, n := range l {
			ones += int(n >> bit & 1)
		}
		x |= uint64(ones%2) << bit
	}
	return x
}

// odd tells by counting whether an odd number of the coins are true.
func odd(l []bool) bool {
	count := 0
	for _, c := range l {
		if c {
			count++
		}
	}
	return count%2 == 1
}

// places tells indexes within n elements and on both sides of them, as far as integers reach.
func places(n int) []int {
	l := []int{math.MinInt, math.MinInt + 1, -1 << 32, -2, -1, n + 1, n + 2, 1 << 32, math.MaxInt - 1, math.MaxInt}
	for i := range n + 1 {
		l = append(l, i)
	}
	return l
}

func TestP1001XorsKnown(t *testing.T) {
	for _, x := range []struct{ l, want []uint64 }{
		{nil, []uint64{0}},
		{[]uint64{}, []uint64{0}},
		{[]uint64{0}, []uint64{0, 0}},
		{[]uint64{5}, []uint64{0, 5}},
		{[]uint64{5, 3}, []uint64{0, 5, 6}},
		{[]uint64{5, 5}, []uint64{0, 5, 0}},
		{[]uint64{top, 1}, []uint64{0, top, top - 1}},
		{[]uint64{1, 2, 4, 8}, []uint64{0, 1, 3, 7, 15}},
		{[]uint64{1 << 63, 1, 1 << 63, 1}, []uint64{0, 1 << 63, 1<<63 + 1, 1, 0}},
	} {
		if got := Xors(x.l); !slices.Equal(got, x.want) {
			t.Errorf("Xors(%d) is %d, want %d", x.l, got, x.want)
		}
	}
}

func TestP1001XorsExact(t *testing.T) {
	for _, l := range nonces() {
		p := Xors(l)
		if len(p) != len(l)+1 {
			t.Fatalf("Xors(%d) has %d elements", l, len(p))
		}
		for i, got := range p {
			if want := xor(l[:i]); got != want {
				t.Errorf("element %d of Xors(%d) is %d, want %d", i, l, got, want)
			}
		}
	}
}

func TestP1001OddsKnown(t *testing.T) {
	for _, x := range []struct{ l, want []bool }{
		{nil, []bool{false}},
		{[]bool{}, []bool{false}},
		{[]bool{false}, []bool{false, false}},
		{[]bool{true}, []bool{false, true}},
		{[]bool{true, true}, []bool{false, true, false}},
		{[]bool{true, false, true, true}, []bool{false, true, true, false, true}},
		{[]bool{false, false, true, false}, []bool{false, false, false, true, true}},
	} {
		if got := Odds(x.l); !slices.Equal(got, x.want) {
			t.Errorf("Odds(%v) is %v, want %v", x.l, got, x.want)
		}
	}
}

func TestP1001OddsExact(t *testing.T) {
	for _, l := range coins() {
		p := Odds(l)
		if len(p) != len(l)+1 {
			t.Fatalf("Odds(%v) has %d elements", l, len(p))
		}
		for i, got := range p {
			if want := odd(l[:i]); got != want {
				t.Errorf("element %d of Odds(%v) is %v, want %v", i, l, got, want)
			}
		}
	}
}

// The arguments, and the spare capacity behind them, stay as they were.
func TestP1001ChangesNoArgument(t *testing.T) {
	l := []uint64{5, 3, 9, 11}
	Xors(l[:2])
	if !slices.Equal(l, []uint64{5, 3, 9, 11}) {
		t.Errorf("the nonces became %d", l)
	}
	c := []bool{true, true, true, false}
	Odds(c[:2])
	if !slices.Equal(c, []bool{true, true, true, false}) {
		t.Errorf("the coins became %v", c)
	}
}

// A result shares no memory with the argument or with another result, and appending to it reaches neither.
func TestP1001ResultsAreNew(t *testing.T) {
	l := []uint64{5, 3}
	first, second := Xors(l), Xors(l)
	l[0], l[1] = 8, 8
	clear(second)
	_ = append(second, 1)
	if !slices.Equal(first, []uint64{0, 5, 6}) {
		t.Errorf("the sums became %d", first)
	}
	if clear(first); !slices.Equal(l, []uint64{8, 8}) {
		t.Errorf("the nonces became %d", l)
	}
	c := []bool{true, true}
	one, two := Odds(c), Odds(c)
	c[0], c[1] = false, false
	clear(two)
	_ = append(two, true)
	if !slices.Equal(one, []bool{false, true, false}) {
		t.Errorf("the parities became %v", one)
	}
	if one[1] = true; !slices.Equal(c, []bool{false, false}) {
		t.Errorf("the coins became %v", c)
	}
}

// Over and Odd take any slice, also one that begins with another element than a result of Xors or Odds does.
func TestP1002OverKnown(t *testing.T) {
	for _, x := range []struct {
		p        []uint64
		from, to int
		want     uint64
		ok       bool
	}{
		{[]uint64{0, 5, 6}, 1, 2, 3, true},
		{[]uint64{0, 5, 6}, 0, 2, 6, true},
		{[]uint64{0, 5, 6}, 2, 2, 0, true},
		{[]uint64{0, 5, 6}, 0, 0, 0, true},
		{[]uint64{7}, 0, 0, 0, true},
		{[]uint64{7, 7}, 0, 1, 0, true},
		{[]uint64{top, 9, 1}, 0, 2, top - 1, true},
		{[]uint64{1 << 63, 0, top}, 0, 1, 1 << 63, true},
		{[]uint64{0, 5, 6}, 2, 1, 0, false},
		{[]uint64{0, 5, 6}, -1, 2, 0, false},
		{[]uint64{0, 5, 6}, -2, -1, 0, false},
		{[]uint64{0, 5, 6}, 1, 3, 0, false},
		{[]uint64{0, 5, 6}, 3, 3, 0, false},
		{[]uint64{}, 0, 0, 0, false},
		{nil, 0, 0, 0, false},
		{nil, -1, -1, 0, false},
	} {
		if got, ok := Over(x.p, x.from, x.to); got != x.want || ok != x.ok {
			t.Errorf("Over(%d, %d, %d) is %d, %v, want %d, %v", x.p, x.from, x.to, got, ok, x.want, x.ok)
		}
	}
}

func TestP1002OverExact(t *testing.T) {
	for _, p := range nonces() {
		for _, from := range places(len(p)) {
			for _, to := range places(len(p)) {
				var want uint64
				ok := from >= 0 && from <= to && to <= len(p)-1
				if ok {
					want = xor([]uint64{p[from], p[to]})
				}
				if got, is := Over(p, from, to); got != want || is != ok {
					t.Errorf("Over(%d, %d, %d) is %d, %v, want %d, %v", p, from, to, got, is, want, ok)
				}
			}
		}
	}
}

func TestP1002OddKnown(t *testing.T) {
	for _, x := range []struct {
		p        []bool
		from, to int
		want, ok bool
	}{
		{[]bool{false, true, false}, 0, 1, true, true},
		{[]bool{false, true, false}, 1, 2, true, true},
		{[]bool{false, true, false}, 0, 2, false, true},
		{[]bool{false, true, false}, 1, 1, false, true},
		{[]bool{true}, 0, 0, false, true},
		{[]bool{true, true}, 0, 1, false, true},
		{[]bool{true, false}, 0, 1, true, true},
		{[]bool{false, true, false}, 1, 0, false, false},
		{[]bool{false, true, false}, -1, 1, false, false},
		{[]bool{false, true, false}, -2, -1, false, false},
		{[]bool{false, true, false}, 1, 3, false, false},
		{[]bool{false, true, false}, 3, 3, false, false},
		{[]bool{}, 0, 0, false, false},
		{nil, 0, 0, false, false},
		{nil, -1, -1, false, false},
	} {
		if got, ok := Odd(x.p, x.from, x.to); got != x.want || ok != x.ok {
			t.Errorf("Odd(%v, %d, %d) is %v, %v, want %v, %v", x.p, x.from, x.to, got, ok, x.want, x.ok)
		}
	}
}

func TestP1002OddExact(t *testing.T) {
	for _, p := range coins() {
		for _, from := range places(len(p)) {
			for _, to := range places(len(p)) {
				ok := from >= 0 && from <= to && to <= len(p)-1
				want := ok && odd([]bool{p[from], p[to]})
				if got, is := Odd(p, from, to); got != want || is != ok {
					t.Errorf("Odd(%v, %d, %d) is %v, %v, want %v, %v", p, from, to, got, is, want, ok)
				}
			}
		}
	}
}

// The spare capacity of a slice holds no elements of it.
func TestP1002SpareCapacity(t *testing.T) {
	p := []uint64{0, 5, 6, 7}
	if got, ok := Over(p[:2], 0, 2); got != 0 || ok {
		t.Errorf("Over behind the end is %d, %v", got, ok)
	}
	c := []bool{false, true, true, true}
	if got, ok := Odd(c[:2], 0, 2); got || ok {
		t.Errorf("Odd behind the end is %v, %v", got, ok)
	}
}

func TestP1002ChangesNoArgument(t *testing.T) {
	p := []uint64{4, 5, 6, 7}
	Over(p[:3], 0, 2)
	if !slices.Equal(p, []uint64{4, 5, 6, 7}) {
		t.Errorf("the sums became %d", p)
	}
	c := []bool{true, false, true, true}
	Odd(c[:3], 1, 2)
	if !slices.Equal(c, []bool{true, false, true, true}) {
		t.Errorf("the parities became %v", c)
	}
}

func TestP1003OverOfXors(t *testing.T) {
	for _, l := range nonces() {
		p := Xors(l)
		for to := range len(p) {
			for from := range to + 1 {
				if got, ok := Over(p, from, to); got != xor(l[from:to]) || !ok {
					t.Errorf("of %d from %d to %d: %d, %v, want %d", l, from, to, got, ok, xor(l[from:to]))
				}
			}
		}
	}
}

func TestP1003OddOfOdds(t *testing.T) {
	for _, l := range coins() {
		p := Odds(l)
		for to := range len(p) {
			for from := range to + 1 {
				if got, ok := Odd(p, from, to); got != odd(l[from:to]) || !ok {
					t.Errorf("of %v from %d to %d: %v, %v, want %v", l, from, to, got, ok, odd(l[from:to]))
				}
			}
		}
	}
}

// The elements from the first up to the end of a slice are all of them, and none lie behind that.
func TestP1003Ends(t *testing.T) {
	for _, l := range nonces() {
		p := Xors(l)
		if got, ok := Over(p, 0, len(l)); got != xor(l) || !ok {
			t.Errorf("of all of %d: %d, %v, want %d", l, got, ok, xor(l))
		}
		if got, ok := Over(p, 0, len(l)+1); got != 0 || ok {
			t.Errorf("of one more than %d: %d, %v", l, got, ok)
		}
	}
	for _, l := range coins() {
		p := Odds(l)
		if got, ok := Odd(p, 0, len(l)); got != odd(l) || !ok {
			t.Errorf("of all of %v: %v, %v, want %v", l, got, ok, odd(l))
		}
		if got, ok := Odd(p, 0, len(l)+1); got || ok {
			t.Errorf("of one more than %v: %v, %v", l, got, ok)
		}
	}
}
