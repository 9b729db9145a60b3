package sat

import (
	"math"
	"math/big"
	"math/rand"
	"testing"

	"splittally/api"
)

// words tells the edges of the range, and draws of every bit length from a fixed seed.
func words() []uint64 {
	l := []uint64{0, 1, 2, 3, 5, 7, 1<<32 - 1, 1 << 32, 1<<32 + 1, 1<<63 - 1, 1 << 63, 1<<63 + 1, api.Top - 1, api.Top}
	r := rand.New(rand.NewSource(1))
	for n := range 64 {
		l = append(l, r.Uint64()>>n)
	}
	return l
}

func large(x uint64) *big.Int { return new(big.Int).SetUint64(x) }

// nearest tells the word that is nearest to the exact result.
func nearest(n *big.Int) uint64 {
	if n.Sign() < 0 {
		return 0
	}
	if !n.IsUint64() {
		return api.Top
	}
	return n.Uint64()
}

type pair struct{ a, b, want uint64 }

func checkPairs(t *testing.T, name string, f func(a, b uint64) uint64, l []pair) {
	t.Helper()
	for _, x := range l {
		if got := f(x.a, x.b); got != x.want {
			t.Errorf("%s(%d, %d) is %d, want %d", name, x.a, x.b, got, x.want)
		}
	}
}

func TestP101Add(t *testing.T) {
	checkPairs(t, "Add", Add, []pair{
		{0, 0, 0},
		{2, 3, 5},
		{api.Top, 0, api.Top},
		{0, api.Top, api.Top},
		{api.Top - 1, 1, api.Top},
		{api.Top - 2, 1, api.Top - 1},
		{api.Top, 1, api.Top},
		{1, api.Top, api.Top},
		{1 << 63, 1 << 63, api.Top},
		{1 << 63, 1<<63 - 1, api.Top},
		{api.Top, api.Top, api.Top},
	})
}

func TestP101Sub(t *testing.T) {
	checkPairs(t, "Sub", Sub, []pair{
		{3, 5, 0},
		{5, 3, 2},
		{5, 5, 0},
		{0, 0, 0},
		{0, 1, 0},
		{1, 0, 1},
		{0, api.Top, 0},
		{api.Top, 0, api.Top},
		{api.Top, api.Top, 0},
		{api.Top - 1, api.Top, 0},
	})
}

func TestP101Mul(t *testing.T) {
	checkPairs(t, "Mul", Mul, []pair{
		{0, 0, 0},
		{6, 7, 42},
		{0, api.Top, 0},
		{api.Top, 0, 0},
		{1, api.Top, api.Top},
		{api.Top, 1, api.Top},
		{2, api.Top, api.Top},
		{2, 1<<63 - 1, api.Top - 1},
		{2, 1 << 63, api.Top},
		{1 << 32, 1 << 32, api.Top},
		{1<<32 - 1, 1<<32 + 1, api.Top},
		{1<<32 - 1, 1 << 32, api.Top - (1<<32 - 1)},
		{1<<32 + 1, 1<<32 + 1, api.Top},
		{api.Top, api.Top, api.Top},
	})
}

func TestP101Shl(t *testing.T) {
	for _, x := range []struct {
		a    uint64
		n    int
		want uint64
	}{
		{5, 0, 5},
		{5, 1, 10},
		{3, 4, 48},
		{1, 63, 1 << 63},
		{1, 64, api.Top},
		{2, 63, api.Top},
		{3, 62, 3 << 62},
		{3, 63, api.Top},
		{1, 99, api.Top},
		{1, math.MaxInt, api.Top},
		{api.Top, 0, api.Top},
		{api.Top, 1, api.Top},
		{1<<63 - 1, 1, api.Top - 1},
		{1 << 63, 1, api.Top},
		{0, 0, 0},
		{0, 64, 0},
		{0, 99, 0},
		{0, math.MaxInt, 0},
		{0, -1, 0},
		{5, -1, 5},
		{5, -64, 5},
		{5, math.MinInt, 5},
		{api.Top, -1, api.Top},
		{api.Top, math.MinInt, api.Top},
	} {
		if got := Shl(x.a, x.n); got != x.want {
			t.Errorf("Shl(%d, %d) is %d, want %d", x.a, x.n, got, x.want)
		}
	}
}

func TestP102Diff(t *testing.T) {
	checkPairs(t, "Diff", Diff, []pair{
		{0, 0, 0},
		{3, 5, 2},
		{5, 3, 2},
		{5, 5, 0},
		{0, api.Top, api.Top},
		{api.Top, 0, api.Top},
		{api.Top, api.Top, 0},
		{1 << 63, 1<<63 - 1, 1},
		{1<<63 - 1, 1 << 63, 1},
		{1, api.Top, api.Top - 1},
	})
}

func TestP102Clamp(t *testing.T) {
	for _, x := range []struct{ x, lo, hi, want uint64 }{
		{5, 1, 9, 5},
		{1, 1, 9, 1},
		{9, 1, 9, 9},
		{0, 1, 9, 1},
		{10, 1, 9, 9},
		{4, 4, 4, 4},
		{3, 4, 4, 4},
		{5, 4, 4, 4},
		{0, 0, api.Top, 0},
		{api.Top, 0, api.Top, api.Top},
		{api.Top, 0, 0, 0},
		{0, api.Top, api.Top, api.Top},
	} {
		if got := Clamp(x.x, x.lo, x.hi); got != x.want {
			t.Errorf("Clamp(%d, %d, %d) is %d, want %d", x.x, x.lo, x.hi, got, x.want)
		}
	}
}

// The comparison with hi comes first, so that a number between a hi and a greater lo becomes hi.
func TestP102ClampCrossed(t *testing.T) {
	for _, x := range []struct{ x, lo, hi, want uint64 }{
		{0, 9, 1, 9},
		{1, 9, 1, 9},
		{2, 9, 1, 1},
		{5, 9, 1, 1},
		{9, 9, 1, 1},
		{10, 9, 1, 1},
		{0, api.Top, 0, api.Top},
		{1, api.Top, 0, 0},
		{api.Top, api.Top, 0, 0},
	} {
		if got := Clamp(x.x, x.lo, x.hi); got != x.want {
			t.Errorf("Clamp(%d, %d, %d) is %d, want %d", x.x, x.lo, x.hi, got, x.want)
		}
	}
}

func TestP103Exact(t *testing.T) {
	l := words()
	for _, a := range l {
		for _, b := range l {
			x, y := large(a), large(b)
			difference := new(big.Int).Sub(x, y)
			checkPairs(t, "Add", Add, []pair{{a, b, nearest(new(big.Int).Add(x, y))}})
			checkPairs(t, "Sub", Sub, []pair{{a, b, nearest(difference)}})
			checkPairs(t, "Mul", Mul, []pair{{a, b, nearest(new(big.Int).Mul(x, y))}})
			checkPairs(t, "Diff", Diff, []pair{{a, b, nearest(new(big.Int).Abs(difference))}})
		}
	}
}

func TestP103ExactShl(t *testing.T) {
	for _, a := range words() {
		for n := range 200 {
			want := nearest(new(big.Int).Lsh(large(a), uint(n)))
			if got := Shl(a, n); got != want {
				t.Errorf("Shl(%d, %d) is %d, want %d", a, n, got, want)
			}
		}
	}
}
