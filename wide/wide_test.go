package wide

import (
	"math/big"
	"math/rand"
	"testing"

	"splittally/api"
)

// words tells the edges of the range, and draws of many bit lengths from a fixed seed.
func words() []uint64 {
	l := []uint64{0, 1, 2, 3, 5, 7, 1<<32 - 1, 1 << 32, 1<<32 + 1, 1<<63 - 1, 1 << 63, 1<<63 + 1, api.Top - 1, api.Top}
	r := rand.New(rand.NewSource(2))
	for n := 0; n < 64; n += 3 {
		l = append(l, r.Uint64()>>n)
	}
	return l
}

func large(x uint64) *big.Int { return new(big.Int).SetUint64(x) }

// whole tells hi * 2^64 + lo.
func whole(hi, lo uint64) *big.Int {
	n := new(big.Int).Lsh(large(hi), 64)
	return n.Add(n, large(lo))
}

// capped tells n, at most Top.
func capped(n *big.Int) uint64 {
	if n.IsUint64() {
		return n.Uint64()
	}
	return api.Top
}

func TestP201Mul(t *testing.T) {
	for _, x := range []struct{ a, b, hi, lo uint64 }{
		{0, 0, 0, 0},
		{0, api.Top, 0, 0},
		{api.Top, 0, 0, 0},
		{6, 7, 0, 42},
		{1, api.Top, 0, api.Top},
		{2, api.Top, 1, api.Top - 1},
		{1 << 32, 1 << 32, 1, 0},
		{1<<32 - 1, 1<<32 + 1, 0, api.Top},
		{1 << 63, 2, 1, 0},
		{1 << 63, 1 << 63, 1 << 62, 0},
		{api.Top, api.Top, api.Top - 1, 1},
	} {
		if hi, lo := Mul(x.a, x.b); hi != x.hi || lo != x.lo {
			t.Errorf("Mul(%d, %d) is %d, %d, want %d, %d", x.a, x.b, hi, lo, x.hi, x.lo)
		}
	}
}

func TestP201MulExact(t *testing.T) {
	l := words()
	for _, a := range l {
		for _, b := range l {
			want := new(big.Int).Mul(large(a), large(b))
			if hi, lo := Mul(a, b); whole(hi, lo).Cmp(want) != 0 {
				t.Errorf("Mul(%d, %d) is %d, %d, want %d in all", a, b, hi, lo, want)
			}
		}
	}
}

func TestP201Div(t *testing.T) {
	for _, x := range []struct {
		hi, lo, d, q, r uint64
		ok              bool
	}{
		{0, 7, 2, 3, 1, true},
		{0, 0, 1, 0, 0, true},
		{0, 6, 7, 0, 6, true},
		{0, 7, 7, 1, 0, true},
		{0, api.Top, 1, api.Top, 0, true},
		{1, 0, 2, 1 << 63, 0, true},
		{1, 1, 2, 1 << 63, 1, true},
		{2, 5, 3, 12297829382473034412, 1, true},
		{api.Top - 1, 1, api.Top, api.Top, 0, true},
		{api.Top - 1, api.Top, api.Top, api.Top, api.Top - 1, true},
		{1<<63 - 1, api.Top, 1 << 63, api.Top, 1<<63 - 1, true},
	} {
		q, r, ok := Div(x.hi, x.lo, x.d)
		if q != x.q || r != x.r || ok != x.ok {
			t.Errorf("Div(%d, %d, %d) is %d, %d, %v, want %d, %d, %v", x.hi, x.lo, x.d, q, r, ok, x.q, x.r, x.ok)
		}
	}
}

func TestP201DivRefused(t *testing.T) {
	for _, x := range []struct{ hi, lo, d uint64 }{
		{0, 0, 0},
		{0, 9, 0},
		{9, 9, 0},
		{api.Top, api.Top, 0},
		{1, 0, 1},
		{2, 0, 1},
		{7, 0, 7},
		{7, 9, 7},
		{8, 9, 7},
		{1 << 63, 0, 1 << 63},
		{api.Top, 0, api.Top},
		{api.Top, api.Top, api.Top},
		{api.Top, 0, api.Top - 1},
	} {
		if q, r, ok := Div(x.hi, x.lo, x.d); q != 0 || r != 0 || ok {
			t.Errorf("Div(%d, %d, %d) is %d, %d, %v, want 0, 0, false", x.hi, x.lo, x.d, q, r, ok)
		}
	}
}

func TestP202DownAndUp(t *testing.T) {
	for _, x := range []struct{ a, b, d, down, up uint64 }{
		{7, 3, 2, 10, 11},
		{7, 4, 2, 14, 14},
		{0, 0, 1, 0, 0},
		{0, 9, 5, 0, 0},
		{1, 1, 2, 0, 1},
		{1, 1, api.Top, 0, 1},
		{3, 3, 10, 0, 1},
		{api.Top, 1, 1, api.Top, api.Top},
		{api.Top, api.Top, api.Top, api.Top, api.Top},
		{api.Top, api.Top - 1, api.Top, api.Top - 1, api.Top - 1},
		{1 << 63, 1 << 63, 1 << 63, 1 << 63, 1 << 63},
		{1 << 63, 2, 3, 6148914691236517205, 6148914691236517206},
	} {
		checkDownAndUp(t, x.a, x.b, x.d, x.down, x.up)
	}
}

// Top is also the answer where the exact quotient lies above it, by a fraction or by much.
func TestP202Capped(t *testing.T) {
	for _, x := range []struct{ a, b, d, down, up uint64 }{
		{api.Top, 2, 1, api.Top, api.Top},
		{1 << 63, 2, 1, api.Top, api.Top},
		{1 << 32, 1 << 32, 1, api.Top, api.Top},
		{api.Top, api.Top, 1, api.Top, api.Top},
		{api.Top, api.Top, api.Top - 1, api.Top, api.Top},
		{api.Top, api.Top - 2, api.Top - 1, api.Top - 2, api.Top - 1},
	} {
		checkDownAndUp(t, x.a, x.b, x.d, x.down, x.up)
	}
}

// A quotient of Top with a remainder fits in 64 bits, but is 2^64 once it is rounded up.
func TestP202TopAndRemainder(t *testing.T) {
	for _, x := range []struct{ a, b, d, r uint64 }{
		{253921, 145295143558111, 2, 1},
		{311, 177942868878227186, 3, 1},
		{29, 3180473116156819244, 5, 1},
		{19, 6796168869261413753, 7, 2},
		{4294967298, 18446744069414584321, 1<<32 + 1, 3},
	} {
		hi, lo := Mul(x.a, x.b)
		if q, r, ok := Div(hi, lo, x.d); q != api.Top || r != x.r || !ok {
			t.Errorf("Div(%d, %d, %d) is %d, %d, %v, want Top, %d, true", hi, lo, x.d, q, r, ok, x.r)
		}
		checkDownAndUp(t, x.a, x.b, x.d, api.Top, api.Top)
	}
}

func TestP202ZeroDivisor(t *testing.T) {
	for _, a := range words() {
		for _, b := range []uint64{0, 1, a, api.Top} {
			checkDownAndUp(t, a, b, 0, api.Top, api.Top)
		}
	}
}

func TestP202Exact(t *testing.T) {
	l := words()
	for _, a := range l {
		for _, b := range l {
			for _, d := range l {
				if d == 0 {
					continue
				}
				q, r := new(big.Int).QuoRem(new(big.Int).Mul(large(a), large(b)), large(d), new(big.Int))
				up := new(big.Int).Add(q, big.NewInt(int64(r.Sign())))
				checkDownAndUp(t, a, b, d, capped(q), capped(up))
			}
		}
	}
}

func checkDownAndUp(t *testing.T, a, b, d, down, up uint64) {
	t.Helper()
	if got := Down(a, b, d); got != down {
		t.Errorf("Down(%d, %d, %d) is %d, want %d", a, b, d, got, down)
	}
	if got := Up(a, b, d); got != up {
		t.Errorf("Up(%d, %d, %d) is %d, want %d", a, b, d, got, up)
	}
}

func TestP203QuotientTimesDivisorPlusRemainder(t *testing.T) {
	l := words()
	for _, hi := range l {
		for _, lo := range l {
			for _, d := range l {
				q, r, ok := Div(hi, lo, d)
				if ok != (hi < d) {
					t.Errorf("Div(%d, %d, %d) tells %v", hi, lo, d, ok)
				}
				if !ok {
					continue
				}
				back := new(big.Int).Mul(large(q), large(d))
				back.Add(back, large(r))
				if back.Cmp(whole(hi, lo)) != 0 || r >= d {
					t.Errorf("Div(%d, %d, %d) is %d, %d", hi, lo, d, q, r)
				}
			}
		}
	}
}
