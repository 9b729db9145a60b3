package draw

import (
	"math"
	"math/big"
	"math/rand"
	"slices"
	"testing"
)

const top = 1<<64 - 1

// sequence is what the generator SplitMix64, from which P501 is taken, returns from the seed 0.
var sequence = []uint64{
	0xe220a8397b1dcdaf, 0x6e789e6aa1b965f4, 0x06c45d188009454f, 0xf88bb8a8724c81ec, 0x1b39896a51a8749b,
	0x53cb9f0c747ea2ea, 0x2c829abe1f4532e1, 0xc584133ac916ab3c, 0x3ee5789041c98ac3, 0xf3b8488c368cb0a6,
}

// words tells the edges of the range, and draws of every bit length from a fixed seed.
func words() []uint64 {
	l := []uint64{0, 1, 2, 3, 5, 6, 1<<32 - 1, 1 << 32, 1<<63 - 1, 1 << 63, 1<<63 + 1, top - 1, top}
	r := rand.New(rand.NewSource(7))
	for n := range 64 {
		l = append(l, r.Uint64()>>n)
	}
	return l
}

func large(x uint64) *big.Int { return new(big.Int).SetUint64(x) }

// product tells x * y modulo 2^64.
func product(x *big.Int, y uint64) *big.Int {
	z := new(big.Int).Mul(x, large(y))
	return z.And(z, large(top))
}

// folded tells z xor (z shifted right by n).
func folded(z *big.Int, n uint) *big.Int {
	return new(big.Int).Xor(z, new(big.Int).Rsh(z, n))
}

// mixed tells Mix by the steps of P501 with numbers of any size.
func mixed(k uint64) uint64 {
	z := product(new(big.Int).Add(large(k), large(1)), 0x9e3779b97f4a7c15)
	z = product(folded(z, 30), 0xbf58476d1ce4e5b9)
	z = product(folded(z, 27), 0x94d049bb133111eb)
	return folded(z, 31).Uint64()
}

// drawn tells the next n words of s.
func drawn(s *Source, n int) []uint64 {
	var l []uint64
	for range n {
		l = append(l, s.Next())
	}
	return l
}

// expected tells the first n words of a source of the words l.
func expected(l []uint64, n int) []uint64 {
	want := slices.Clone(l[:min(n, len(l))])
	for k := len(want); k < n; k++ {
		want = append(want, mixed(uint64(k)))
	}
	return want
}

func TestP501MixKnown(t *testing.T) {
	for k, want := range sequence {
		if got := Mix(uint64(k)); got != want {
			t.Errorf("Mix(%d) is %x, want %x", k, got, want)
		}
	}
}

// k + 1 wraps round at the greatest k, and the mix of 0 is 0.
func TestP501MixWraps(t *testing.T) {
	if got := Mix(top); got != 0 {
		t.Errorf("Mix(Top) is %x, want 0", got)
	}
}

func TestP501MixExact(t *testing.T) {
	for _, k := range words() {
		if got, want := Mix(k), mixed(k); got != want {
			t.Errorf("Mix(%d) is %x, want %x", k, got, want)
		}
	}
	for k := range uint64(1000) {
		if got, want := Mix(k), mixed(k); got != want {
			t.Errorf("Mix(%d) is %x, want %x", k, got, want)
		}
	}
}

func TestP502Next(t *testing.T) {
	for _, l := range [][]uint64{nil, {}, {0}, {5}, {5, 7}, {7, 5, 7}, {0, 0, 0}, {top, 0, top}, words()} {
		n := len(l) + 20
		if got, want := drawn(New(l), n), expected(l, n); !slices.Equal(got, want) {
			t.Errorf("a source of %x returns %x, want %x", l, got, want)
		}
	}
}

// The word behind the given ones is the mix of how many there were, not of 0.
func TestP502NextGoesOnBehindTheWords(t *testing.T) {
	got := drawn(New([]uint64{5, 7}), 5)
	want := []uint64{5, 7, sequence[2], sequence[3], sequence[4]}
	if !slices.Equal(got, want) {
		t.Errorf("it returns %x, want %x", got, want)
	}
}

func TestP502Taken(t *testing.T) {
	for _, l := range [][]uint64{nil, {5}, {5, 7, 9}} {
		s := New(l)
		for n := range 9 {
			if got := s.Taken(); got != n {
				t.Errorf("Taken of a source of %d is %d, want %d", l, got, n)
			}
			s.Taken()
			s.Fork()
			s.Next()
		}
	}
}

// A fork goes on where its origin stands, and neither moves the other: within the words, at their end and behind it.
func TestP502Fork(t *testing.T) {
	l := []uint64{5, 7, 9}
	for before := range 6 {
		for ahead := range 6 {
			s := New(l)
			drawn(s, before)
			f := s.Fork()
			if f == nil || f == s {
				t.Fatalf("behind %d words: no source of its own", before)
			}
			drawn(s, ahead)
			if f.Taken() != before || s.Taken() != before+ahead {
				t.Errorf("behind %d words, the origin %d ahead: %d and %d taken", before, ahead, f.Taken(), s.Taken())
			}
			if got, want := drawn(f, 6), expected(l, before+6)[before:]; !slices.Equal(got, want) {
				t.Errorf("behind %d words, the origin %d ahead: the fork returns %x, want %x", before, ahead, got, want)
			}
			if got, want := drawn(s, 6), expected(l, before+ahead+6)[before+ahead:]; !slices.Equal(got, want) {
				t.Errorf("behind %d words: the origin returns %x, want %x", before, got, want)
			}
		}
	}
}

func TestP502ForkOfFork(t *testing.T) {
	l := []uint64{5, 7, 9}
	s := New(l)
	s.Next()
	f := s.Fork()
	f.Next()
	g := f.Fork()
	g.Next()
	for _, x := range []struct {
		s     *Source
		taken int
	}{{s, 1}, {f, 2}, {g, 3}} {
		if got := x.s.Taken(); got != x.taken {
			t.Errorf("%d taken, want %d", got, x.taken)
		}
		if got, want := x.s.Next(), expected(l, 4)[x.taken]; got != want {
			t.Errorf("behind %d words: %x, want %x", x.taken, got, want)
		}
	}
}

// The caller may do to its words what it likes, and finds them, and the spare capacity behind them, as they were.
func TestP502KeepsAndChangesNoArgument(t *testing.T) {
	l := []uint64{5, 7, 9, 11}
	s, untouched := New(l[:2]), New(l[:2])
	f := s.Fork()
	drawn(s, 9)
	if !slices.Equal(l, []uint64{5, 7, 9, 11}) {
		t.Errorf("the words became %d", l)
	}
	l[0], l[1], l[2] = 1, 2, 3
	for _, s := range []*Source{untouched, f} {
		if got, want := drawn(s, 4), expected([]uint64{5, 7}, 4); !slices.Equal(got, want) {
			t.Errorf("it returns %x, want %x", got, want)
		}
	}
}

func TestP502Nil(t *testing.T) {
	var s *Source
	for range 3 {
		if s.Next() != 0 || s.Taken() != 0 || s.Fork() != nil {
			t.Error("a nil source returns something")
		}
	}
}

func TestP503Low(t *testing.T) {
	for _, x := range []struct {
		w    uint64
		bits int
		want uint64
	}{
		{0xff, 4, 0xf},
		{0xff, 8, 0xff},
		{0xff, 9, 0xff},
		{6, 1, 0},
		{7, 1, 1},
		{top, 1, 1},
		{top, 62, 1<<62 - 1},
		{top, 63, 1<<63 - 1},
		{1 << 63, 63, 0},
		{1 << 63, 64, 1 << 63},
		{top, 64, top},
		{top, 65, top},
		{top, 128, top},
		{top, 1 << 32, top},
		{top, math.MaxInt, top},
		{top, 0, 0},
		{top, -1, 0},
		{top, -64, 0},
		{top, math.MinInt, 0},
		{0, 64, 0},
	} {
		if got := Low(x.w, x.bits); got != x.want {
			t.Errorf("Low(%x, %d) is %x, want %x", x.w, x.bits, got, x.want)
		}
	}
}

func TestP503LowExact(t *testing.T) {
	for _, w := range words() {
		for bits := range 200 {
			want := new(big.Int).Mod(large(w), new(big.Int).Lsh(large(1), uint(bits))).Uint64()
			if got := Low(w, bits); got != want {
				t.Errorf("Low(%x, %d) is %x, want %x", w, bits, got, want)
			}
		}
	}
}

func TestP503Coin(t *testing.T) {
	for _, x := range []struct {
		w    uint64
		want bool
	}{
		{0, false},
		{1, false},
		{1 << 62, false},
		{1<<63 - 1, false},
		{1 << 63, true},
		{1<<63 + 1, true},
		{top, true},
	} {
		if got := Coin(x.w); got != x.want {
			t.Errorf("Coin(%x) is %v", x.w, got)
		}
	}
	for _, w := range words() {
		if got, want := Coin(w), large(w).Bit(63) == 1; got != want {
			t.Errorf("Coin(%x) is %v", w, got)
		}
	}
}

func TestP503Skips(t *testing.T) {
	for _, x := range []struct {
		w, one uint64
		want   bool
	}{
		{6, 3, true},
		{7, 3, false},
		{3, 6, false},
		{5, 5, true},
		{9, 1, true},
		{0, 1, true},
		{0, 5, true},
		{0, top, true},
		{top, top, true},
		{top - 1, top, false},
		{1 << 63, 2, true},
		{top, 2, false},
		{top, 3, true},
		{6, 0, false},
		{0, 0, false},
		{top, 0, false},
	} {
		if got := Skips(x.w, x.one); got != x.want {
			t.Errorf("Skips(%d, %d) is %v", x.w, x.one, got)
		}
	}
}

func TestP503SkipsExact(t *testing.T) {
	l := words()
	for _, w := range l {
		for _, one := range l {
			want := one > 0 && new(big.Int).Rem(large(w), large(max(one, 1))).Sign() == 0
			if got := Skips(w, one); got != want {
				t.Errorf("Skips(%d, %d) is %v", w, one, got)
			}
		}
	}
}

// Two sources of the same words return the same, in whatever order they are asked, and whatever else is drawn between.
func TestP504SameWordsSameSequence(t *testing.T) {
	for _, l := range [][]uint64{nil, {5}, {5, 7, 9}, words()} {
		n := len(l) + 20
		first, second, third := New(l), New(append(make([]uint64, 0, 500), l...)), New(l)
		whole := drawn(first, n)
		for i, want := range whole {
			other := New([]uint64{uint64(i)})
			other.Next()
			if got := second.Next(); got != want {
				t.Errorf("word %d of the second is %x, want %x", i, got, want)
			}
			if got := third.Fork().Next(); got != want {
				t.Errorf("word %d of a fork of the third is %x, want %x", i, got, want)
			}
			if got := third.Next(); got != want {
				t.Errorf("word %d of the third is %x, want %x", i, got, want)
			}
		}
	}
}

func TestP504NilAndEmptyWords(t *testing.T) {
	if got, want := drawn(New([]uint64{}), 9), drawn(New(nil), 9); !slices.Equal(got, want) {
		t.Errorf("no words: %x, want %x", got, want)
	}
}
