package clock

import (
	"math"
	"math/big"
	"math/rand"
	"slices"
	"testing"

	"splittally/api"
)

// words tells the edges of the range, and draws of every bit length from a fixed seed.
func words() []uint64 {
	l := []uint64{0, 1, 2, 3, 5, 1<<32 - 1, 1 << 32, 1<<63 - 1, 1 << 63, 1<<63 + 1, api.Top - 1, api.Top}
	r := rand.New(rand.NewSource(5))
	for n := range 64 {
		l = append(l, r.Uint64()>>n)
	}
	return l
}

func large(x uint64) *big.Int { return new(big.Int).SetUint64(x) }

// nearest tells the word that is nearest to the exact result.
func nearest(n *big.Int) uint64 {
	if n.Sign() < 0 {
		return 0
	}
	if !n.IsUint64() {
		return api.Top
	}
	return n.Uint64()
}

func TestP401After(t *testing.T) {
	for _, x := range []struct{ t, d, want uint64 }{
		{0, 0, 0},
		{3, 4, 7},
		{4, 3, 7},
		{0, api.Top, api.Top},
		{api.Top, 0, api.Top},
		{api.Top - 1, 0, api.Top - 1},
		{api.Top - 2, 1, api.Top - 1},
		{api.Top - 1, 1, api.Top},
		{api.Top - 1, 2, api.Top},
		{api.Top, 1, api.Top},
		{1 << 63, 1 << 63, api.Top},
		{api.Top, api.Top, api.Top},
	} {
		if got := After(x.t, x.d); got != x.want {
			t.Errorf("After(%d, %d) is %d, want %d", x.t, x.d, got, x.want)
		}
	}
}

func TestP401Since(t *testing.T) {
	for _, x := range []struct{ now, t, want uint64 }{
		{0, 0, 0},
		{7, 3, 4},
		{3, 7, 0},
		{7, 7, 0},
		{0, 1, 0},
		{0, api.Top, 0},
		{api.Top, 0, api.Top},
		{api.Top, 1, api.Top - 1},
		{api.Top - 1, api.Top, 0},
		{api.Top, api.Top - 1, 1},
		{api.Top, api.Top, 0},
	} {
		if got := Since(x.now, x.t); got != x.want {
			t.Errorf("Since(%d, %d) is %d, want %d", x.now, x.t, got, x.want)
		}
	}
}

func TestP401AfterAndSinceExact(t *testing.T) {
	l := words()
	for _, a := range l {
		for _, b := range l {
			if got, want := After(a, b), nearest(new(big.Int).Add(large(a), large(b))); got != want {
				t.Errorf("After(%d, %d) is %d, want %d", a, b, got, want)
			}
			if got, want := Since(a, b), nearest(new(big.Int).Sub(large(a), large(b))); got != want {
				t.Errorf("Since(%d, %d) is %d, want %d", a, b, got, want)
			}
		}
	}
}

func TestP401Due(t *testing.T) {
	for _, x := range []struct {
		now, at uint64
		want    bool
	}{
		{0, 0, true},
		{0, 1, false},
		{4, 5, false},
		{5, 5, true},
		{6, 5, true},
		{api.Top, 0, true},
		{api.Top - 2, api.Top - 1, false},
		{api.Top - 1, api.Top - 1, true},
		{api.Top, api.Top - 1, true},
	} {
		if got := Due(x.now, x.at); got != x.want {
			t.Errorf("Due(%d, %d) is %v, want %v", x.now, x.at, got, x.want)
		}
	}
}

// The time Top means never, so it is not due even at the time Top.
func TestP401NeverIsNotDue(t *testing.T) {
	for _, now := range words() {
		if Due(now, api.Top) {
			t.Errorf("Due(%d, Top) is true", now)
		}
	}
}

func TestP401First(t *testing.T) {
	for _, x := range []struct {
		l    []uint64
		want uint64
	}{
		{nil, api.Top},
		{[]uint64{}, api.Top},
		{[]uint64{0}, 0},
		{[]uint64{3}, 3},
		{[]uint64{api.Top}, api.Top},
		{[]uint64{api.Top, api.Top}, api.Top},
		{[]uint64{api.Top, 7}, 7},
		{[]uint64{7, api.Top}, 7},
		{[]uint64{api.Top, api.Top - 1}, api.Top - 1},
		{[]uint64{9, 2, 5}, 2},
		{[]uint64{2, 5, 9}, 2},
		{[]uint64{9, 5, 2}, 2},
		{[]uint64{4, 4, 4}, 4},
		{[]uint64{1, 0}, 0},
	} {
		if got := First(x.l...); got != x.want {
			t.Errorf("First of %d is %d, want %d", x.l, got, x.want)
		}
	}
	if got := First(); got != api.Top {
		t.Errorf("First() is %d, want Top", got)
	}
}

func TestP401FirstIsTheLeast(t *testing.T) {
	l := words()
	r := rand.New(rand.NewSource(6))
	for n := 1; n <= len(l); n++ {
		r.Shuffle(len(l), func(i, j int) { l[i], l[j] = l[j], l[i] })
		if got, want := First(l[:n]...), slices.Min(l[:n]); got != want {
			t.Errorf("First of %d is %d, want %d", l[:n], got, want)
		}
	}
}

// The times that are handed in as a slice, and its spare capacity, stay as they were.
func TestP401FirstChangesNothing(t *testing.T) {
	l := []uint64{9, 2, 5, 1, 0}
	First(l[:3]...)
	if !slices.Equal(l, []uint64{9, 2, 5, 1, 0}) {
		t.Errorf("First left %d", l)
	}
}

func TestP402Backoff(t *testing.T) {
	for _, x := range []struct {
		d    uint64
		n    int
		most uint64
		want uint64
	}{
		{3, 0, 10, 3},
		{3, 1, 10, 6},
		{3, 2, 10, 10},
		{3, 2, 11, 11},
		{3, 2, 12, 12},
		{3, 2, 13, 12},
		{11, 0, 10, 10},
		{10, 0, 10, 10},
		{5, 3, 0, 0},
		{0, 0, 10, 0},
		{0, 99, 10, 0},
		{0, math.MaxInt, api.Top, 0},
		{1, 63, api.Top, 1 << 63},
		{1, 64, api.Top, api.Top},
		{1, 64, api.Top - 1, api.Top - 1},
		{3, 63, api.Top, api.Top},
		{3, 99, 10, 10},
		{1, math.MaxInt, 10, 10},
		{1, math.MaxInt, api.Top, api.Top},
		{api.Top, 0, api.Top, api.Top},
		{api.Top, 1, 10, 10},
	} {
		if got := Backoff(x.d, x.n, x.most); got != x.want {
			t.Errorf("Backoff(%d, %d, %d) is %d, want %d", x.d, x.n, x.most, got, x.want)
		}
	}
}

// A negative count doubles nothing, but the limit still holds.
func TestP402NegativeCount(t *testing.T) {
	for _, n := range []int{-1, -5, -64, math.MinInt} {
		for _, x := range []struct{ d, most, want uint64 }{
			{3, 10, 3},
			{0, 10, 0},
			{11, 10, 10},
			{5, 0, 0},
			{api.Top, api.Top, api.Top},
			{api.Top, 10, 10},
		} {
			if got := Backoff(x.d, n, x.most); got != x.want {
				t.Errorf("Backoff(%d, %d, %d) is %d, want %d", x.d, n, x.most, got, x.want)
			}
		}
	}
}

func TestP402Exact(t *testing.T) {
	l := words()
	for _, d := range l {
		for _, most := range l {
			for n := range 130 {
				want := min(nearest(new(big.Int).Lsh(large(d), uint(n))), most)
				if got := Backoff(d, n, most); got != want {
					t.Errorf("Backoff(%d, %d, %d) is %d, want %d", d, n, most, got, want)
				}
			}
		}
	}
}

func TestP403DueStaysDue(t *testing.T) {
	l := words()
	for _, at := range l {
		for _, now := range l {
			if !Due(now, at) {
				continue
			}
			for _, d := range l {
				if later := After(now, d); !Due(later, at) {
					t.Errorf("%d is due at %d, but not at %d", at, now, later)
				}
			}
		}
	}
}

// At each time from at on what is due is due, and at none before, close to the time and at the ends of the range.
func TestP403DueFromItsTimeOn(t *testing.T) {
	for _, at := range words() {
		if at == api.Top {
			continue
		}
		for d := range uint64(9) {
			if later := After(at, d); !Due(later, at) {
				t.Errorf("%d is not due at %d", at, later)
			}
			if earlier := Since(at, d); earlier < at && Due(earlier, at) {
				t.Errorf("%d is due at %d", at, earlier)
			}
		}
		if !Due(api.Top, at) {
			t.Errorf("%d is not due at Top", at)
		}
	}
}
