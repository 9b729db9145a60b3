package rtt

import (
	"math/big"
	"math/rand"
	"slices"
	"testing"

	"splittally/api"
)

// words tells the edges of the range, and draws of many bit lengths from a fixed seed.
func words() []uint64 {
	l := []uint64{0, 1, 2, 3, 4, 5, 7, 8, 9, 1<<32 - 1, 1 << 32, 1<<61 - 1, 1 << 61, 1<<62 - 1, 1 << 62, 1<<63 - 1, 1 << 63, 1<<63 + 1, api.Top - 7, api.Top - 1, api.Top}
	r := rand.New(rand.NewSource(17))
	for n := 0; n < 64; n += 5 {
		l = append(l, r.Uint64()>>n)
	}
	return l
}

func large(x uint64) *big.Int { return new(big.Int).SetUint64(x) }

func times(n int64, x *big.Int) *big.Int { return new(big.Int).Mul(big.NewInt(n), x) }

func plus(x, y *big.Int) *big.Int { return new(big.Int).Add(x, y) }

func over(x *big.Int, n int64) *big.Int { return new(big.Int).Quo(x, big.NewInt(n)) }

func greater(x, y *big.Int) *big.Int {
	if x.Cmp(y) < 0 {
		return y
	}
	return x
}

// capped tells n, at most Top.
func capped(n *big.Int) uint64 {
	if n.IsUint64() {
		return n.Uint64()
	}
	return api.Top
}

// sampled tells what Sample has to answer for an estimate that has samples.
func sampled(t *testing.T, r api.Rtt, x uint64) api.Rtt {
	t.Helper()
	difference := new(big.Int).Sub(large(r.Smooth), large(x))
	deviation := over(plus(times(3, large(r.Var)), difference.Abs(difference)), 4)
	smooth := over(plus(times(7, large(r.Smooth)), large(x)), 8)
	if !deviation.IsUint64() || !smooth.IsUint64() {
		t.Fatalf("the sample %d of %+v is too much", x, r)
	}
	return api.Rtt{Has: true, Latest: x, Smooth: smooth.Uint64(), Var: deviation.Uint64(), Least: min(r.Least, x)}
}

func checkSample(t *testing.T, r api.Rtt, x uint64, want api.Rtt) {
	t.Helper()
	if got := Sample(r, x); got != want {
		t.Errorf("Sample(%+v, %d) is %+v, want %+v", r, x, got, want)
	}
}

func checkTimeout(t *testing.T, r api.Rtt, first, grain, want uint64) {
	t.Helper()
	if got := Timeout(r, first, grain); got != want {
		t.Errorf("Timeout(%+v, %d, %d) is %d, want %d", r, first, grain, got, want)
	}
}

func checkWindow(t *testing.T, r api.Rtt, first, grain, want uint64) {
	t.Helper()
	if got := Window(r, first, grain); got != want {
		t.Errorf("Window(%+v, %d, %d) is %d, want %d", r, first, grain, got, want)
	}
}

// unsampled tells estimates without samples, with fields that mean nothing then.
func unsampled() []api.Rtt {
	return []api.Rtt{
		{},
		{Latest: 5, Smooth: 6, Var: 7, Least: 8},
		{Latest: api.Top, Smooth: api.Top, Var: api.Top, Least: api.Top},
		{Least: 1},
		{Latest: 1 << 63},
		{Smooth: 1 << 40},
		{Var: 1 << 40},
	}
}

func TestP1701Example(t *testing.T) {
	r := Sample(api.Rtt{}, 100)
	if r.Smooth != 100 || r.Var != 50 {
		t.Errorf("Sample of 100: Smooth %d, Var %d", r.Smooth, r.Var)
	}
}

// Without samples all of the estimate comes from x, whatever r has in its fields.
func TestP1701First(t *testing.T) {
	for _, x := range []struct{ x, half uint64 }{
		{0, 0},
		{1, 0},
		{2, 1},
		{3, 1},
		{100, 50},
		{101, 50},
		{1 << 63, 1 << 62},
		{api.Top - 1, 1<<63 - 1},
		{api.Top, 1<<63 - 1},
	} {
		for _, r := range unsampled() {
			checkSample(t, r, x.x, api.Rtt{Has: true, Latest: x.x, Smooth: x.x, Var: x.half, Least: x.x})
		}
	}
}

// A sample of 0 is a sample.
func TestP1701Zero(t *testing.T) {
	r := Sample(api.Rtt{}, 0)
	checkSample(t, r, 0, api.Rtt{Has: true})
	checkSample(t, r, 80, api.Rtt{Has: true, Latest: 80, Smooth: 10, Var: 20})
	checkSample(t, api.Rtt{Has: true}, 7, api.Rtt{Has: true, Latest: 7, Smooth: 0, Var: 1})
}

func TestP1701Row(t *testing.T) {
	r := api.Rtt{}
	for _, want := range []api.Rtt{
		{Has: true, Latest: 1000, Smooth: 1000, Var: 500, Least: 1000},
		{Has: true, Latest: 200, Smooth: 900, Var: 575, Least: 200},
		{Has: true, Latest: 900, Smooth: 900, Var: 431, Least: 200},
		{Has: true, Latest: 907, Smooth: 900, Var: 325, Least: 200},
		{Has: true, Latest: 908, Smooth: 901, Var: 245, Least: 200},
		{Has: true, Latest: 900, Smooth: 900, Var: 184, Least: 200},
		{Has: true, Latest: 0, Smooth: 787, Var: 363, Least: 0},
		{Has: true, Latest: 787, Smooth: 787, Var: 272, Least: 0},
	} {
		checkSample(t, r, want.Latest, want)
		r = want
	}
}

// The products need more than 64 bits here, the quotients do not.
func TestP1701Great(t *testing.T) {
	const top = api.Top
	for _, x := range []struct{ smooth, deviation, x, wantSmooth, wantVar uint64 }{
		{top, top, top, top, top - 1<<62},
		{top, top, 0, top - 1<<61, top},
		{0, top, top, 1<<61 - 1, top},
		{0, 0, top, 1<<61 - 1, 1<<62 - 1},
		{top, 0, 0, top - 1<<61, 1<<62 - 1},
		{top - 1, 0, top, top - 1, 0},
		{top, 0, top - 1, top - 1, 0},
		{1 << 63, 1 << 63, 1 << 63, 1 << 63, 3 << 61},
		{1 << 62, 1 << 62, 1 << 62, 1 << 62, 3 << 60},
		{0, top, 0, 0, top - 1<<62},
		{0, top, 1, 0, top - 1<<62},
	} {
		r := api.Rtt{Has: true, Latest: 3, Smooth: x.smooth, Var: x.deviation, Least: top}
		checkSample(t, r, x.x, api.Rtt{Has: true, Latest: x.x, Smooth: x.wantSmooth, Var: x.wantVar, Least: x.x})
	}
}

// All small estimates, so that every remainder of both divisions is among them.
func TestP1701Small(t *testing.T) {
	for smooth := range uint64(18) {
		for deviation := range uint64(10) {
			for least := range uint64(4) {
				for x := range uint64(18) {
					r := api.Rtt{Has: true, Latest: 99, Smooth: smooth, Var: deviation, Least: 5 * least}
					checkSample(t, r, x, sampled(t, r, x))
				}
			}
		}
	}
}

func TestP1701Exact(t *testing.T) {
	l := words()
	for i, smooth := range l {
		for j, deviation := range l {
			for k, x := range l {
				r := api.Rtt{Has: true, Latest: l[(i+j)%len(l)], Smooth: smooth, Var: deviation, Least: l[(i+j+k)%len(l)]}
				checkSample(t, r, x, sampled(t, r, x))
			}
		}
	}
}

// Neither the latest sample nor the least one has a say in anything but itself.
func TestP1701Apart(t *testing.T) {
	for _, latest := range words() {
		for _, least := range words() {
			r := api.Rtt{Has: true, Latest: latest, Smooth: 100, Var: 10, Least: least}
			checkSample(t, r, 60, api.Rtt{Has: true, Latest: 60, Smooth: 95, Var: 17, Least: min(least, 60)})
		}
	}
}

// Samples at both ends of the range, in turn, differ as much as samples can.
func TestP1701Swing(t *testing.T) {
	r := api.Rtt{}
	for n := range 1000 {
		x := uint64(n%2) * api.Top
		want := api.Rtt{Has: true}
		if n > 0 {
			want = sampled(t, r, x)
		}
		checkSample(t, r, x, want)
		r = want
	}
}

func TestP1702Timeout(t *testing.T) {
	for _, x := range []struct{ smooth, deviation, grain, want uint64 }{
		{0, 0, 0, 0},
		{0, 0, 1, 1},
		{100, 10, 0, 140},
		{100, 10, 39, 140},
		{100, 10, 40, 140},
		{100, 10, 41, 141},
		{100, 0, 1000, 1100},
		{0, 10, 7, 40},
		{1, api.Top / 4, 1, api.Top - 2},
		{3, api.Top / 4, 1, api.Top},
		{4, api.Top / 4, 1, api.Top},
		{0, 1 << 62, 1, api.Top},
		{0, 1<<62 + 5, 1, api.Top},
		{5, 1 << 62, 1, api.Top},
		{0, api.Top, 0, api.Top},
		{api.Top, 0, 0, api.Top},
		{api.Top, 1, 1, api.Top},
		{api.Top - 4, 1, 1, api.Top},
		{api.Top - 5, 1, 1, api.Top - 1},
		{0, 0, api.Top, api.Top},
		{1, 0, api.Top, api.Top},
		{api.Top, api.Top, api.Top, api.Top},
	} {
		// What a first round-trip time was taken for, and the other fields, count for nothing.
		for _, other := range words() {
			r := api.Rtt{Has: true, Latest: other, Smooth: x.smooth, Var: x.deviation, Least: other}
			checkTimeout(t, r, other, x.grain, x.want)
		}
	}
}

func TestP1702TimeoutWithoutSamples(t *testing.T) {
	for _, x := range []struct{ first, grain, want uint64 }{
		{0, 0, 0},
		{0, 7, 7},
		{1, 1, 3},
		{3, 1, 9},
		{100, 1, 300},
		{100, 199, 300},
		{100, 200, 300},
		{100, 201, 301},
		{100, 500, 600},
		{api.Top / 3, 1, api.Top},
		{api.Top/3 - 1, 1, api.Top - 3},
		{api.Top/3 + 1, 1, api.Top},
		{1 << 63, 1, api.Top},
		{1<<63 + 1, 1, api.Top},
		{api.Top, 0, api.Top},
		{0, api.Top, api.Top},
		{1, api.Top, api.Top},
		{1, api.Top - 1, api.Top},
		{1, api.Top - 2, api.Top - 1},
		{api.Top, api.Top, api.Top},
	} {
		for _, r := range unsampled() {
			checkTimeout(t, r, x.first, x.grain, x.want)
		}
	}
}

func TestP1702TimeoutExact(t *testing.T) {
	l := words()
	for _, a := range l {
		for _, grain := range l {
			first := plus(large(a), greater(times(2, large(a)), large(grain)))
			checkTimeout(t, api.Rtt{Smooth: 1, Var: 1}, a, grain, capped(first))
			for _, deviation := range l {
				want := plus(large(a), greater(times(4, large(deviation)), large(grain)))
				checkTimeout(t, api.Rtt{Has: true, Smooth: a, Var: deviation}, 1, grain, capped(want))
			}
		}
	}
}

func TestP1702Window(t *testing.T) {
	for _, x := range []struct{ smooth, latest, grain, want uint64 }{
		{0, 0, 0, 0},
		{0, 0, 1, 1},
		{100, 60, 1, 112},
		{100, 160, 1, 180},
		{160, 100, 1, 180},
		{100, 100, 1, 112},
		{7, 0, 0, 7},
		{0, 7, 0, 7},
		{8, 0, 0, 9},
		{0, 8, 0, 9},
		{15, 9, 0, 16},
		{16, 9, 0, 18},
		{100, 60, 112, 112},
		{100, 60, 113, 113},
		{100, 160, 1000, 1000},
		{1 << 61, 0, 1, 9 << 58},
		{0, 1 << 63, 1, 9 << 60},
		{16397105843297379213, 0, 1, api.Top - 1},
		{16397105843297379214, 0, 1, api.Top},
		{0, 16397105843297379213, 1, api.Top - 1},
		{0, 16397105843297379215, 1, api.Top},
		{api.Top, 0, 1, api.Top},
		{0, api.Top, 1, api.Top},
		{api.Top, api.Top, api.Top, api.Top},
		{1, 1, api.Top, api.Top},
	} {
		for _, other := range words() {
			r := api.Rtt{Has: true, Latest: x.latest, Smooth: x.smooth, Var: other, Least: other}
			checkWindow(t, r, other, x.grain, x.want)
		}
	}
}

func TestP1702WindowWithoutSamples(t *testing.T) {
	for _, x := range []struct{ first, grain, want uint64 }{
		{0, 0, 0},
		{0, 7, 7},
		{7, 0, 7},
		{8, 0, 9},
		{100, 1, 112},
		{100, 112, 112},
		{100, 113, 113},
		{100, 500, 500},
		{1 << 63, 1, 9 << 60},
		{16397105843297379213, 1, api.Top - 1},
		{16397105843297379214, 1, api.Top},
		{16397105843297379215, 1, api.Top},
		{api.Top, 1, api.Top},
		{0, api.Top, api.Top},
		{api.Top, api.Top, api.Top},
	} {
		for _, r := range unsampled() {
			checkWindow(t, r, x.first, x.grain, x.want)
		}
	}
}

func TestP1702WindowExact(t *testing.T) {
	l := words()
	for _, a := range l {
		for _, grain := range l {
			first := greater(over(times(9, large(a)), 8), large(grain))
			checkWindow(t, api.Rtt{Smooth: 1, Latest: 1}, a, grain, capped(first))
			for _, latest := range l {
				want := greater(over(times(9, large(max(a, latest))), 8), large(grain))
				checkWindow(t, api.Rtt{Has: true, Smooth: a, Latest: latest}, 1, grain, capped(want))
			}
		}
	}
}

// within lets samples come one behind the other, and holds each estimate against all samples so far.
func within(t *testing.T, samples []uint64) {
	t.Helper()
	r := api.Rtt{}
	for n, x := range samples {
		r = Sample(r, x)
		least, most := slices.Min(samples[:n+1]), slices.Max(samples[:n+1])
		if r.Smooth < least || r.Smooth > most {
			t.Fatalf("behind %d the smoothed time is %d", samples[:n+1], r.Smooth)
		}
		if !r.Has || r.Latest != x || r.Least != least {
			t.Fatalf("behind %d the estimate is %+v", samples[:n+1], r)
		}
	}
}

func TestP1703SmallRange(t *testing.T) {
	const values, length = 5, 6
	for _, base := range []uint64{0, 1 << 61, 1<<63 - 2, api.Top - values + 1} {
		for code := range values * values * values * values * values * values {
			var samples []uint64
			for range length {
				samples = append(samples, base+uint64(code%values))
				code /= values
			}
			within(t, samples)
		}
	}
}

func TestP1703Drawn(t *testing.T) {
	r := rand.New(rand.NewSource(1703))
	for range 2000 {
		low := r.Uint64() >> r.Intn(64)
		width := r.Uint64() >> r.Intn(64)
		var samples []uint64
		for range 1 + r.Intn(60) {
			x := low
			if width > 0 {
				x += min(r.Uint64()%width, api.Top-low)
			}
			samples = append(samples, x)
		}
		within(t, samples)
	}
}

// Where the samples stay the same, so does the smoothed time.
func TestP1703Constant(t *testing.T) {
	for _, x := range words() {
		r := api.Rtt{}
		for n := range 200 {
			r = Sample(r, x)
			if r.Smooth != x || r.Latest != x || r.Least != x {
				t.Fatalf("behind %d samples of %d: %+v", n+1, x, r)
			}
		}
		if r.Var != 0 {
			t.Errorf("behind 200 samples of %d the deviation is %d", x, r.Var)
		}
	}
}
