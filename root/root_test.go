package root

import (
	"math/big"
	"math/rand"
	"testing"

	"splittally/api"
)

// greatest is the cube root of 2^128 - 1.
const greatest = 6981463658331

func large(x uint64) *big.Int { return new(big.Int).SetUint64(x) }

// whole tells hi * 2^64 + lo.
func whole(hi, lo uint64) *big.Int {
	n := new(big.Int).Lsh(large(hi), 64)
	return n.Add(n, large(lo))
}

// halves tells the two words of n, and false if n is negative or longer than 128 bits.
func halves(n *big.Int) (hi, lo uint64, ok bool) {
	if n.Sign() < 0 || n.BitLen() > 128 {
		return 0, 0, false
	}
	return new(big.Int).Rsh(n, 64).Uint64(), new(big.Int).And(n, large(api.Top)).Uint64(), true
}

func cubed(r *big.Int) *big.Int {
	return new(big.Int).Exp(r, big.NewInt(3), nil)
}

// words tells the edges of the range, and draws of every bit length from a fixed seed.
func words() []uint64 {
	l := []uint64{0, 1, 2, 7, 8, 26, 27, 1<<32 - 1, 1 << 32, 1<<63 - 1, 1 << 63, api.Top - 1, api.Top}
	r := rand.New(rand.NewSource(3))
	for n := range 64 {
		l = append(l, r.Uint64()>>n)
	}
	return l
}

// roots tells roots of every bit length, those next to each power of two, and those at the end of the range.
func roots() []uint64 {
	l := []uint64{greatest - 1, greatest, greatest + 1, greatest + 2, 2642245, 2642246, api.Top - 1, api.Top}
	r := rand.New(rand.NewSource(4))
	for n := range 64 {
		power := uint64(1) << n
		l = append(l, power-1, power, power+1, r.Uint64()>>n)
	}
	return l
}

func TestP301Cube(t *testing.T) {
	for _, x := range []struct{ hi, lo, want uint64 }{
		{0, 0, 0},
		{0, 1, 1},
		{0, 2, 1},
		{0, 7, 1},
		{0, 8, 2},
		{0, 26, 2},
		{0, 27, 3},
		{0, 28, 3},
		{0, 999_999_999_999_999_999, 999_999},
		{0, 1_000_000_000_000_000_000, 1_000_000},
		{0, api.Top, 2642245},
		{1, 0, 2642245},
		{1 << 62, 0, 1 << 42},
		{1<<62 - 1, api.Top, 1<<42 - 1},
		{api.Top, 0, greatest},
		{api.Top, api.Top, greatest},
	} {
		if got := Cube(x.hi, x.lo); got != x.want {
			t.Errorf("Cube(%d, %d) is %d, want %d", x.hi, x.lo, got, x.want)
		}
	}
}

func TestP301Below(t *testing.T) {
	for _, x := range []struct {
		r, hi, lo uint64
		want      bool
	}{
		{0, 0, 0, true},
		{0, api.Top, api.Top, true},
		{1, 0, 0, false},
		{1, 0, 1, true},
		{1, 1, 0, true},
		{3, 0, 26, false},
		{3, 0, 27, true},
		{3, 0, 28, true},
		{2642245, 0, api.Top, true},
		{2642246, 0, api.Top, false},
		{2642246, 1, 0, false},
		{1 << 42, 1 << 62, 0, true},
		{1 << 42, 1<<62 - 1, api.Top, false},
		{greatest, api.Top, api.Top, true},
	} {
		if got := Below(x.r, x.hi, x.lo); got != x.want {
			t.Errorf("Below(%d, %d, %d) is %v, want %v", x.r, x.hi, x.lo, got, x.want)
		}
	}
}

// A cube of more than 128 bits is above every number, whichever of its low words are small.
func TestP301BelowLongCubes(t *testing.T) {
	for _, r := range []uint64{greatest + 1, greatest + 2, 1<<43 - 1, 1 << 43, 1<<43 + 1, 1 << 48, 1 << 63, api.Top} {
		for _, x := range [][2]uint64{{0, 0}, {1, 0}, {1 << 63, 0}, {api.Top, 0}, {api.Top, api.Top}} {
			if Below(r, x[0], x[1]) {
				t.Errorf("Below(%d, %d, %d) is true", r, x[0], x[1])
			}
		}
	}
}

func TestP301BelowNextToCubes(t *testing.T) {
	for _, r := range roots() {
		for step := int64(-1); step <= 1; step++ {
			n := cubed(large(r))
			n.Add(n, big.NewInt(step))
			hi, lo, ok := halves(n)
			if !ok {
				continue
			}
			if got, want := Below(r, hi, lo), step >= 0; got != want {
				t.Errorf("Below(%d, %d, %d) is %v, want %v", r, hi, lo, got, want)
			}
		}
	}
}

func TestP301BelowExact(t *testing.T) {
	l := words()
	for _, r := range roots() {
		third := cubed(large(r))
		for _, hi := range l {
			for _, lo := range l {
				if got, want := Below(r, hi, lo), third.Cmp(whole(hi, lo)) <= 0; got != want {
					t.Errorf("Below(%d, %d, %d) is %v, want %v", r, hi, lo, got, want)
				}
			}
		}
	}
}

func TestP302CubesOfRootAndNext(t *testing.T) {
	l := words()
	for _, hi := range l {
		for _, lo := range l {
			checkRoot(t, hi, lo)
		}
	}
}

func TestP302NextToCubes(t *testing.T) {
	for _, r := range roots() {
		for step := int64(-1); step <= 1; step++ {
			n := cubed(large(r))
			if hi, lo, ok := halves(n.Add(n, big.NewInt(step))); ok {
				checkRoot(t, hi, lo)
			}
		}
	}
}

// checkRoot holds the root against big.Int, which knows nothing of Below.
func checkRoot(t *testing.T, hi, lo uint64) {
	t.Helper()
	got, n := large(Cube(hi, lo)), whole(hi, lo)
	next := new(big.Int).Add(got, big.NewInt(1))
	if cubed(got).Cmp(n) > 0 || cubed(next).Cmp(n) <= 0 {
		t.Errorf("Cube(%d, %d) is %d", hi, lo, got)
	}
}
