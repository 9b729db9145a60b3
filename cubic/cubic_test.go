package cubic

import (
	"math/big"
	"math/rand"
	"testing"

	"splittally/api"
)

// never is the Epoch of a window without an epoch.
const never = uint64(api.Top)

// edges tells numbers at both ends of their range and at powers of two.
func edges() []uint64 {
	return []uint64{0, 1, 2, 3, 10, 1200, 1<<32 - 1, 1 << 32, 1<<62 + 1, 1<<63 - 1, 1 << 63, api.Top - 1, api.Top}
}

// drawn tells a number of any length in bits.
func drawn(random *rand.Rand) uint64 { return random.Uint64() >> random.Intn(65) }

// near tells a number that is x or lies beside it.
func near(random *rand.Rand, x uint64) uint64 { return x + uint64(random.Intn(5)) - 2 }

func large(x uint64) *big.Int { return new(big.Int).SetUint64(x) }

func plus(x, y *big.Int) *big.Int { return new(big.Int).Add(x, y) }

func less(x, y *big.Int) *big.Int { return new(big.Int).Sub(x, y) }

func times(x, y *big.Int) *big.Int { return new(big.Int).Mul(x, y) }

// capped tells n, at least 0 and at most Top.
func capped(n *big.Int) uint64 {
	if n.Sign() < 0 {
		return 0
	}
	if n.IsUint64() {
		return n.Uint64()
	}
	return api.Top
}

// sum tells x + y, at most Top.
func sum(x, y uint64) uint64 { return capped(plus(large(x), large(y))) }

// part tells x * y / z of an exact product, at most Top.
func part(x, y, z uint64) uint64 {
	if z == 0 {
		return api.Top
	}
	return capped(new(big.Int).Quo(times(large(x), large(y)), large(z)))
}

// isRoot tells whether r is the cube root of n, rounded down.
func isRoot(r uint64, n *big.Int) bool {
	next := plus(large(r), large(1))
	return times(times(large(r), large(r)), large(r)).Cmp(n) <= 0 && times(times(next, next), next).Cmp(n) > 0
}

// isLong tells whether k is what Long has to answer, of exact products and quotients.
func isLong(k, peak, cwnd, mss uint64) bool {
	if mss == 0 || large(peak).Cmp(large(cwnd)) <= 0 {
		return k == 0
	}
	distance := times(less(large(peak), large(cwnd)), large(2_500_000_000_000_000_000))
	return isRoot(k, new(big.Int).Quo(distance, large(mss)))
}

// at tells what At has to answer, of exact sums, products and quotients that are capped one by one.
func at(peak, k, t, mss uint64) uint64 {
	d := capped(new(big.Int).Abs(less(large(t), large(k))))
	x := part(d, d, 1_000_000)
	y := part(x, d, 1_000_000)
	z := part(y, capped(times(large(2), large(mss))), 5_000_000)
	if large(t).Cmp(large(k)) >= 0 {
		return sum(peak, z)
	}
	return capped(less(large(peak), large(z)))
}

// slowed tells what slow start makes of w.
func slowed(w api.Win, acked, mss uint64) api.Win {
	most := times(large(2), large(mss))
	if large(acked).Cmp(most) > 0 {
		w.Cwnd = capped(plus(large(w.Cwnd), most))
	} else {
		w.Cwnd = sum(w.Cwnd, acked)
	}
	return w
}

// grown tells what Grow has to answer, step by step as the chapter lists them.
func grown(w api.Win, acked, mss, now, smooth uint64) api.Win {
	if w.Cwnd < w.Thresh {
		return slowed(w, acked, mss)
	}
	if w.Epoch == never {
		// Long is checked by itself.
		w.Epoch, w.Fair, w.K = now, w.Cwnd, Long(w.Peak, w.Cwnd, mss)
		if w.Cwnd > w.Peak {
			w.Peak = w.Cwnd
		}
	}
	if w.Cwnd == 0 {
		return w
	}
	old := w.Cwnd
	aim := at(w.Peak, w.K, sum(capped(less(large(now), large(w.Epoch))), smooth), mss)
	if most := part(3, old, 2); aim > most {
		aim = most
	}
	if aim < old {
		aim = old
	}
	w.Cwnd = sum(old, part(aim-old, acked, old))
	r := part(mss, acked, old)
	if w.Fair < w.Peak {
		r = part(9, r, 17)
	}
	w.Fair = sum(w.Fair, r)
	if w.Cwnd < w.Fair {
		w.Cwnd = w.Fair
	}
	return w
}

// cut tells what Cut has to answer, of exact products and quotients.
func cut(w api.Win, num, den uint64) api.Win {
	peak, size := w.Cwnd, part(w.Cwnd, num, den)
	if w.Cwnd < w.Peak {
		peak = part(w.Cwnd, 17, 20)
	}
	return api.Win{Cwnd: size, Thresh: size, Peak: peak, Epoch: never}
}

// holdLong checks Long.
func holdLong(t *testing.T, peak, cwnd, mss uint64) {
	t.Helper()
	if got := Long(peak, cwnd, mss); !isLong(got, peak, cwnd, mss) {
		t.Fatalf("Long(%d, %d, %d) = %d", peak, cwnd, mss, got)
	}
}

// holdAt checks At.
func holdAt(t *testing.T, peak, k, when, mss uint64) {
	t.Helper()
	if got, want := At(peak, k, when, mss), at(peak, k, when, mss); got != want {
		t.Fatalf("At(%d, %d, %d, %d) = %d, not %d", peak, k, when, mss, got, want)
	}
}

// holdGrow checks Grow.
func holdGrow(t *testing.T, w api.Win, acked, mss, now, smooth uint64) {
	t.Helper()
	if got, want := Grow(w, acked, mss, now, smooth), grown(w, acked, mss, now, smooth); got != want {
		t.Fatalf("Grow(%+v, %d, %d, %d, %d) = %+v, not %+v", w, acked, mss, now, smooth, got, want)
	}
}

// holdCut checks Cut.
func holdCut(t *testing.T, w api.Win, num, den uint64) {
	t.Helper()
	if got, want := Cut(w, num, den), cut(w, num, den); got != want {
		t.Fatalf("Cut(%+v, %d, %d) = %+v, not %+v", w, num, den, got, want)
	}
}

func TestP2201Examples(t *testing.T) {
	for _, x := range []struct {
		peak, cwnd, mss, want uint64
	}{
		{5, 5, 1, 0},
		// There is no way up to the peak.
		{0, 0, 0, 0},
		{4, 5, 1, 0},
		{0, api.Top, 1, 0},
		{api.Top, api.Top, 1, 0},
		// There are no packets.
		{9, 5, 0, 0},
		{api.Top, 0, 0, 0},
		// Two fifths of a packet take a second, and eight times as much takes two.
		{1400, 1000, 1000, 1_000_000},
		{1399, 1000, 1000, 999_165},
		{1401, 1000, 1000, 1_000_832},
		{4200, 1000, 1000, 2_000_000},
		{400, 0, 1000, 1_000_000},
		{20000, 10000, 1000, 2_924_017},
		{1, 0, 1, 1_357_208},
		// The quotient is small, or rounded down to 0.
		{1, 0, 2_500_000_000_000_000_000, 1},
		{1, 0, 2_500_000_000_000_000_001, 0},
		{8, 0, 2_500_000_000_000_000_000, 2},
		{8, 1, 2_500_000_000_000_000_000, 1},
		{1, 0, api.Top, 0},
		// The quotient needs more than 64 bits.
		{api.Top, 0, 1, 3_586_079_476_524},
		{api.Top, 0, api.Top, 1_357_208},
		{api.Top, api.Top - 1, 1, 1_357_208},
	} {
		if got := Long(x.peak, x.cwnd, x.mss); got != x.want {
			t.Errorf("Long(%d, %d, %d) = %d, not %d", x.peak, x.cwnd, x.mss, got, x.want)
		}
		holdLong(t, x.peak, x.cwnd, x.mss)
	}
}

func TestP2201AllEdges(t *testing.T) {
	for _, peak := range edges() {
		for _, cwnd := range edges() {
			for _, mss := range append(edges(), 2_499_999_999_999_999_999, 2_500_000_000_000_000_000, 2_500_000_000_000_000_001) {
				holdLong(t, peak, cwnd, mss)
			}
		}
	}
}

func TestP2201Draws(t *testing.T) {
	random := rand.New(rand.NewSource(2201))
	for range 20000 {
		cwnd := drawn(random)
		holdLong(t, drawn(random), cwnd, drawn(random))
		holdLong(t, near(random, cwnd), cwnd, drawn(random))
		holdLong(t, cwnd+drawn(random), cwnd, uint64(random.Intn(1501)))
	}
}

// TestP2201NextToCubes holds Long where its root steps from one number to the next.
func TestP2201NextToCubes(t *testing.T) {
	for _, r := range []uint64{1, 2, 3, 1000, 1_357_208, 2_642_245, 1_000_000_000, 3_586_079_476_524} {
		cube := times(times(large(r), large(r)), large(r))
		for _, mss := range []uint64{1, 3, 1200, 1 << 40, 1<<61 + 1} {
			distance := capped(new(big.Int).Quo(times(cube, large(mss)), large(2_500_000_000_000_000_000)))
			for away := max(distance, 2) - 2; away <= min(distance, api.Top-2)+2; away++ {
				holdLong(t, away, 0, mss)
				if away == api.Top {
					break
				}
			}
		}
	}
}

func TestP2202Examples(t *testing.T) {
	for _, x := range []struct {
		peak, k, t, mss, want uint64
	}{
		{100, 7, 7, 1, 100},
		{100, 7, 7, api.Top, 100},
		{0, 0, 0, 0, 0},
		{api.Top, api.Top, api.Top, api.Top, api.Top},
		// Two fifths of a packet in the last second up to the peak, and in the first behind it.
		{1400, 1_000_000, 0, 1000, 1000},
		{1400, 1_000_000, 1_000_000, 1000, 1400},
		{1400, 1_000_000, 2_000_000, 1000, 1800},
		{5000, 500_000, 0, 1000, 4950},
		{5000, 0, 500_000, 1000, 5050},
		{0, 0, 10_000_000, 1000, 400_000},
		{5000, 2_000_000, 4_000_000, 0, 5000},
		// A window is not less than 0.
		{300, 1_000_000, 0, 1000, 0},
		{400, 1_000_000, 0, 1000, 0},
		{401, 1_000_000, 0, 1000, 1},
		{5, api.Top, 0, 1000, 0},
		// Each step rounds down by itself: less than a millisecond squared is nothing.
		{5000, 0, 999, 1 << 63, 5000},
		{5000, 0, 1000, 1 << 40, 5000},
		{5000, 0, 10_000, 5_000_000, 5002},
		{5000, 10_000, 0, 5_000_000, 4998},
		{5000, 0, 9_999, 5_000_000, 5000},
		// Each step saturates by itself.
		{5, 0, api.Top, 1000, 7_378_697_629_483_825},
		{5, 0, api.Top, 2_500_000, api.Top},
		{5, 0, 1_000_000, 1 << 63, 3_689_348_814_741_910_328},
		{5, 0, 1_000_000, api.Top, 3_689_348_814_741_910_328},
		{api.Top, 0, 2_000_000, 1000, api.Top},
		{api.Top, 2_000_000, 0, 1000, api.Top - 3200},
	} {
		if got := At(x.peak, x.k, x.t, x.mss); got != x.want {
			t.Errorf("At(%d, %d, %d, %d) = %d, not %d", x.peak, x.k, x.t, x.mss, got, x.want)
		}
	}
}

func TestP2202AllEdges(t *testing.T) {
	moments := append(edges(), 999, 1000, 1_000_000, 20_000_000_000_000)
	for _, peak := range edges() {
		for _, k := range moments {
			for _, when := range moments {
				for _, mss := range edges() {
					holdAt(t, peak, k, when, mss)
				}
			}
		}
	}
}

func TestP2202Draws(t *testing.T) {
	random := rand.New(rand.NewSource(2202))
	for range 50000 {
		peak, k := drawn(random), drawn(random)
		holdAt(t, peak, k, drawn(random), drawn(random))
		holdAt(t, peak, k, near(random, k), drawn(random))
		// Times as they occur: within some minutes of the peak.
		k = uint64(random.Intn(100_000_000))
		holdAt(t, peak, k, uint64(random.Intn(200_000_000)), uint64(random.Intn(1501)))
	}
}

func TestP2203Examples(t *testing.T) {
	for _, x := range []struct {
		w                       api.Win
		acked, mss, now, smooth uint64
		want                    api.Win
	}{
		// Below Thresh no epoch begins and nothing else counts.
		{api.Win{Cwnd: 10, Thresh: 11, Epoch: never}, 9, 3, 5, 5, api.Win{Cwnd: 16, Thresh: 11, Epoch: never}},
		{api.Win{Cwnd: 10, Thresh: 11, Acc: 1, Peak: 2, Epoch: 3, K: 4, Fair: 99}, 5, 3, 5, 5, api.Win{Cwnd: 15, Thresh: 11, Acc: 1, Peak: 2, Epoch: 3, K: 4, Fair: 99}},
		{api.Win{Thresh: 1, Epoch: never}, 0, 3, 5, 5, api.Win{Thresh: 1, Epoch: never}},
		// An epoch begins above the last peak: the window itself is the peak, with no way up to it.
		{api.Win{Cwnd: 10000, Thresh: 10000, Acc: 3, Epoch: never}, 10000, 1000, 5, 1_000_000, api.Win{Cwnd: 11000, Thresh: 10000, Acc: 3, Peak: 10000, Epoch: 5, Fair: 11000}},
		{api.Win{Cwnd: 10000, Peak: 9999, Epoch: never, K: 77, Fair: 99999}, 0, 1000, 5, 1_000_000, api.Win{Cwnd: 10000, Peak: 10000, Epoch: 5, Fair: 10000}},
		{api.Win{Cwnd: 10000, Peak: 10000, Epoch: never, K: 77, Fair: 99999}, 0, 1000, 5, 1_000_000, api.Win{Cwnd: 10000, Peak: 10000, Epoch: 5, Fair: 10000}},
		// One begins below it: K is the way up to the last peak.
		{api.Win{Cwnd: 10000, Thresh: 10000, Acc: 3, Peak: 20000, Epoch: never}, 5000, 1000, 5, 2_924_017, api.Win{Cwnd: 12500, Thresh: 10000, Acc: 3, Peak: 20000, Epoch: 5, K: 2_924_017, Fair: 10264}},
		// One begins at the end of time, and so never.
		{api.Win{Cwnd: 10000, Peak: 9999, Epoch: never}, 0, 1000, never, 0, api.Win{Cwnd: 10000, Peak: 10000, Epoch: never, Fair: 10000}},
		// An epoch that began just before the end of time is one.
		{api.Win{Cwnd: 10000, Peak: 9999, Epoch: never - 1, K: 77, Fair: 600}, 0, 1000, never, 0, api.Win{Cwnd: 10000, Peak: 9999, Epoch: never - 1, K: 77, Fair: 600}},
		// A window of 0 begins an epoch, and no more than that.
		{api.Win{Epoch: never}, 9, 3, 5, 5, api.Win{Epoch: 5}},
		{api.Win{Acc: 1, Peak: 400, Epoch: never, Fair: 6}, 9, 1000, 5, 5, api.Win{Acc: 1, Peak: 400, Epoch: 5, K: 1_000_000}},
		{api.Win{Acc: 1, Peak: 400, Epoch: 2, K: 8, Fair: 6}, 9, 1000, 5, 5, api.Win{Acc: 1, Peak: 400, Epoch: 2, K: 8, Fair: 6}},
		// The aim is the peak, of which half of a window's acknowledgments bring half of the way.
		{api.Win{Cwnd: 12500, Peak: 15000, K: 1_000_000, Fair: 12000}, 12500, 1000, 600_000, 400_000, api.Win{Cwnd: 15000, Peak: 15000, K: 1_000_000, Fair: 12529}},
		{api.Win{Cwnd: 12500, Peak: 15000, K: 1_000_000, Fair: 12000}, 6250, 1000, 600_000, 400_000, api.Win{Cwnd: 13750, Peak: 15000, K: 1_000_000, Fair: 12264}},
		// The time counts from Epoch on, and the round-trip time is added to it.
		{api.Win{Cwnd: 1000, Peak: 1400, Epoch: 70, K: 1_000_000}, 1000, 1000, 70 + 1_000_000, 0, api.Win{Cwnd: 1400, Peak: 1400, Epoch: 70, K: 1_000_000, Fair: 529}},
		{api.Win{Cwnd: 1000, Peak: 1400, Epoch: 70, K: 1_000_000}, 1000, 1000, 70 + 500_000, 0, api.Win{Cwnd: 1350, Peak: 1400, Epoch: 70, K: 1_000_000, Fair: 529}},
		{api.Win{Cwnd: 1000, Peak: 1400, Epoch: 70, K: 1_000_000}, 1000, 1000, 70, 500_000, api.Win{Cwnd: 1350, Peak: 1400, Epoch: 70, K: 1_000_000, Fair: 529}},
		{api.Win{Cwnd: 1000, Peak: 1400, Epoch: 70, K: 1_000_000}, 1000, 1000, 0, 500_000, api.Win{Cwnd: 1350, Peak: 1400, Epoch: 70, K: 1_000_000, Fair: 529}},
		// The aim is not below the window.
		{api.Win{Cwnd: 12500, Peak: 15000, K: 2_000_000, Epoch: 7}, 1250, 1000, 7, 0, api.Win{Cwnd: 12500, Peak: 15000, K: 2_000_000, Epoch: 7, Fair: 52}},
		// It is at most half as much again, rounded down.
		{api.Win{Cwnd: 10, Peak: 99, Epoch: 7}, 10, 0, 7, 0, api.Win{Cwnd: 15, Peak: 99, Epoch: 7}},
		{api.Win{Cwnd: 11, Peak: 99, Epoch: 7}, 11, 0, 7, 0, api.Win{Cwnd: 16, Peak: 99, Epoch: 7}},
		{api.Win{Cwnd: 1, Peak: 99, Epoch: 7}, 1, 0, 7, 0, api.Win{Cwnd: 1, Peak: 99, Epoch: 7}},
		{api.Win{Cwnd: 10, Peak: 15, Epoch: 7}, 10, 0, 7, 0, api.Win{Cwnd: 15, Peak: 15, Epoch: 7}},
		{api.Win{Cwnd: 10, Peak: 14, Epoch: 7}, 10, 0, 7, 0, api.Win{Cwnd: 14, Peak: 14, Epoch: 7}},
		// More than a window may be acknowledged.
		{api.Win{Cwnd: 10, Peak: 14, Epoch: 7}, 25, 0, 7, 0, api.Win{Cwnd: 20, Peak: 14, Epoch: 7}},
		// The quotient rounds down.
		{api.Win{Cwnd: 10, Peak: 13, Epoch: 7}, 9, 0, 7, 0, api.Win{Cwnd: 12, Peak: 13, Epoch: 7}},
		{api.Win{Cwnd: 10, Peak: 13, Epoch: 7}, 3, 0, 7, 0, api.Win{Cwnd: 10, Peak: 13, Epoch: 7}},
		// Fair: the whole packet from the peak on, nine seventeenths of it below, and what is asked is Fair ahead of its growth.
		{api.Win{Cwnd: 5000, Peak: 5000, Epoch: 7, Fair: 4999}, 5000, 170, 7, 0, api.Win{Cwnd: 5089, Peak: 5000, Epoch: 7, Fair: 5089}},
		{api.Win{Cwnd: 5000, Peak: 5000, Epoch: 7, Fair: 5000}, 5000, 170, 7, 0, api.Win{Cwnd: 5170, Peak: 5000, Epoch: 7, Fair: 5170}},
		{api.Win{Cwnd: 5000, Peak: 5000, Epoch: 7, Fair: 5001}, 5000, 170, 7, 0, api.Win{Cwnd: 5171, Peak: 5000, Epoch: 7, Fair: 5171}},
		// Both of its quotients round down: 169 of 170, and of those 89.
		{api.Win{Cwnd: 5000, Peak: 5000, Epoch: 7, Fair: 30}, 4999, 170, 7, 0, api.Win{Cwnd: 5000, Peak: 5000, Epoch: 7, Fair: 119}},
		// Its growth is reckoned with the window ahead of the other one: 1000 * 1000 / 1000 and not / 1400.
		{api.Win{Cwnd: 1000, Peak: 1400, Epoch: 7, Fair: 1400}, 1000, 1000, 7, 0, api.Win{Cwnd: 2400, Peak: 1400, Epoch: 7, Fair: 2400}},
		// A window below Fair becomes Fair, however far that is.
		{api.Win{Cwnd: 10, Peak: 10, Epoch: 7, Fair: 900}, 0, 3, 7, 0, api.Win{Cwnd: 900, Peak: 10, Epoch: 7, Fair: 900}},
		// Sums saturate.
		{api.Win{Cwnd: api.Top - 1, Peak: api.Top, Epoch: 7, Fair: 1}, api.Top, 1, 7, 0, api.Win{Cwnd: api.Top, Peak: api.Top, Epoch: 7, Fair: 1}},
		{api.Win{Cwnd: api.Top - 9, Peak: api.Top, Epoch: 7}, api.Top, 0, 7, 0, api.Win{Cwnd: api.Top, Peak: api.Top, Epoch: 7}},
		{api.Win{Cwnd: 1 << 63, Peak: api.Top, Epoch: 7}, api.Top, 0, 7, 0, api.Win{Cwnd: api.Top, Peak: api.Top, Epoch: 7}},
		{api.Win{Cwnd: 10, Peak: 20, Epoch: 7, Fair: api.Top - 2}, 10, 3, 7, 0, api.Win{Cwnd: api.Top, Peak: 20, Epoch: 7, Fair: api.Top}},
		{api.Win{Cwnd: 1, Peak: 1, Epoch: 7, Fair: 1}, api.Top, api.Top, 7, 0, api.Win{Cwnd: api.Top, Peak: 1, Epoch: 7, Fair: api.Top}},
		{api.Win{Cwnd: 1, Peak: 1, Epoch: 7}, api.Top, api.Top, 7, 0, api.Win{Cwnd: 9765923333140350855, Peak: 1, Epoch: 7, Fair: 9765923333140350855}},
		{api.Win{Cwnd: 1000, Peak: 1000, Epoch: 7}, 1000, 1, api.Top, api.Top, api.Win{Cwnd: 1500, Peak: 1000, Epoch: 7}},
	} {
		if got := Grow(x.w, x.acked, x.mss, x.now, x.smooth); got != x.want {
			t.Errorf("Grow(%+v, %d, %d, %d, %d) = %+v, not %+v", x.w, x.acked, x.mss, x.now, x.smooth, got, x.want)
		}
		holdGrow(t, x.w, x.acked, x.mss, x.now, x.smooth)
	}
}

func TestP2203AllSmall(t *testing.T) {
	const most = 6
	for n := range uint64(most * most * most * most) {
		cwnd, thresh, peak, fair := n%most, n/most%most, n/most/most%most, n/most/most/most
		for acked := range uint64(most) {
			for _, mss := range []uint64{0, 1, 3, 7} {
				for _, epoch := range []uint64{0, 2_000_000, never} {
					w := api.Win{Cwnd: cwnd, Thresh: thresh, Acc: 9, Peak: peak, Epoch: epoch, K: 1_500_000, Fair: fair}
					for _, now := range []uint64{0, 2_000_001, 5_000_000, 9_000_000} {
						holdGrow(t, w, acked, mss, now, 0)
						holdGrow(t, w, acked, mss, now, 700_000)
					}
				}
			}
		}
	}
}

func TestP2203AllEdges(t *testing.T) {
	few := []uint64{0, 1, 1200, 1 << 63, api.Top - 1, api.Top}
	for _, cwnd := range edges() {
		for _, peak := range few {
			for _, acked := range few {
				for _, mss := range few {
					for _, now := range []uint64{0, 4_000_000, api.Top} {
						for _, epoch := range []uint64{0, 3_000_000, never} {
							holdGrow(t, api.Win{Cwnd: cwnd, Thresh: cwnd, Acc: 5, Peak: peak, Epoch: epoch, K: 2_000_000, Fair: cwnd}, acked, mss, now, 50_000)
							holdGrow(t, api.Win{Cwnd: cwnd, Thresh: 0, Acc: 5, Peak: peak, Epoch: epoch, K: api.Top, Fair: peak}, acked, mss, now, api.Top)
							holdGrow(t, api.Win{Cwnd: cwnd, Thresh: api.Top, Acc: 5, Peak: peak, Epoch: epoch, K: 6, Fair: 7}, acked, mss, now, 0)
						}
					}
				}
			}
		}
	}
}

func TestP2203Draws(t *testing.T) {
	random := rand.New(rand.NewSource(2203))
	for range 50000 {
		w := api.Win{Cwnd: drawn(random), Thresh: drawn(random), Acc: drawn(random), Peak: drawn(random), Epoch: drawn(random), K: drawn(random), Fair: drawn(random)}
		holdGrow(t, w, drawn(random), drawn(random), drawn(random), drawn(random))
		w.Thresh = near(random, w.Cwnd)
		holdGrow(t, w, drawn(random), drawn(random), near(random, w.Epoch), drawn(random))
		w.Thresh, w.Epoch = 0, never
		holdGrow(t, w, drawn(random), drawn(random), drawn(random), drawn(random))
		w.Peak = near(random, w.Cwnd)
		holdGrow(t, w, drawn(random), drawn(random), drawn(random), drawn(random))
	}
}

// TestP2203OrdinaryDraws holds Grow for windows, times and acknowledgments as they occur.
func TestP2203OrdinaryDraws(t *testing.T) {
	random := rand.New(rand.NewSource(2204))
	for range 50000 {
		mss := uint64(random.Intn(1500) + 1)
		cwnd := mss*2 + uint64(random.Intn(1_000_000))
		w := api.Win{Cwnd: cwnd, Thresh: uint64(random.Intn(1_000_000)), Peak: uint64(random.Intn(1_200_000)), Epoch: uint64(random.Intn(10_000_000)), K: uint64(random.Intn(20_000_000)), Fair: uint64(random.Intn(1_200_000))}
		acked, now, smooth := uint64(random.Intn(10))*mss, w.Epoch+uint64(random.Intn(30_000_000)), uint64(random.Intn(500_000))
		holdGrow(t, w, acked, mss, now, smooth)
		w.Thresh = near(random, cwnd)
		holdGrow(t, w, acked, mss, now, smooth)
		w.Epoch = never
		holdGrow(t, w, acked, mss, now, smooth)
	}
}

func TestP2204Examples(t *testing.T) {
	for _, x := range []struct {
		cwnd, peak, num, den, size, next uint64
	}{
		{10000, 5000, 7, 10, 7000, 10000},
		{10000, 9999, 7, 10, 7000, 10000},
		{10000, 10000, 7, 10, 7000, 10000},
		{10000, 10001, 7, 10, 7000, 8500},
		{10000, 20000, 17, 20, 8500, 8500},
		{10000, 0, 1, 1, 10000, 10000},
		// Both quotients round down.
		{11, 20, 7, 10, 7, 9},
		{19, api.Top, 7, 10, 13, 16},
		{1, 2, 7, 10, 0, 0},
		{0, 0, 7, 10, 0, 0},
		{0, 1, 7, 10, 0, 0},
		{10, 0, 0, 7, 0, 10},
		// A fraction above one enlarges the window, not the peak.
		{10, 10, 3, 2, 15, 10},
		{10, 11, 3, 2, 15, 8},
		// The products need more than 64 bits, or the quotient does.
		{api.Top, api.Top, 7, 10, 12912720851596686130, api.Top},
		{api.Top - 1, api.Top, 7, 10, 12912720851596686129, 15679732462653118871},
		{1 << 63, 1 << 63, 2, 1, api.Top, 1 << 63},
		{api.Top, 0, api.Top, api.Top, api.Top, api.Top},
		// Nothing is divided by 0.
		{10, 0, 1, 0, api.Top, 10},
		{10, 20, 0, 0, api.Top, 8},
		{0, 0, 0, 0, api.Top, 0},
	} {
		for _, w := range []api.Win{
			{Cwnd: x.cwnd, Peak: x.peak},
			{Cwnd: x.cwnd, Thresh: 1, Acc: 2, Peak: x.peak, Epoch: 3, K: 4, Fair: 5},
			{Cwnd: x.cwnd, Thresh: api.Top, Acc: api.Top, Peak: x.peak, Epoch: never, K: api.Top, Fair: api.Top},
		} {
			if got, want := Cut(w, x.num, x.den), (api.Win{Cwnd: x.size, Thresh: x.size, Peak: x.next, Epoch: never}); got != want {
				t.Errorf("Cut(%+v, %d, %d) = %+v, not %+v", w, x.num, x.den, got, want)
			}
		}
	}
}

func TestP2204AllEdges(t *testing.T) {
	for _, cwnd := range edges() {
		for _, peak := range append(edges(), cwnd-1, cwnd, cwnd+1) {
			for _, num := range edges() {
				for _, den := range edges() {
					holdCut(t, api.Win{Cwnd: cwnd, Thresh: 1, Acc: 2, Peak: peak, Epoch: 3, K: 4, Fair: 5}, num, den)
				}
			}
		}
	}
}

func TestP2204Draws(t *testing.T) {
	random := rand.New(rand.NewSource(2206))
	for range 50000 {
		w := api.Win{Cwnd: drawn(random), Thresh: drawn(random), Acc: drawn(random), Peak: drawn(random), Epoch: drawn(random), K: drawn(random), Fair: drawn(random)}
		num := drawn(random)
		holdCut(t, w, num, drawn(random))
		w.Peak = near(random, w.Cwnd)
		holdCut(t, w, num, near(random, num))
	}
}

// TestP2205CurveMeetsPeak holds that the curve of an epoch begins at the window, or above it by what the root leaves off, and is at the peak at the time that Long tells.
func TestP2205CurveMeetsPeak(t *testing.T) {
	random := rand.New(rand.NewSource(2205))
	for range 50000 {
		mss := uint64(random.Intn(1500) + 1)
		cwnd := drawn(random) >> 1
		peak := cwnd + drawn(random)>>1
		k := Long(peak, cwnd, mss)
		if got := At(peak, k, 0, mss); got < cwnd {
			t.Fatalf("from %d to %d in packets of %d: begins at %d", cwnd, peak, mss, got)
		}
		if got := At(peak, k, k, mss); got != peak {
			t.Fatalf("from %d to %d in packets of %d: %d at its peak", cwnd, peak, mss, got)
		}
		// Windows as they occur: what is rounded off is some bytes.
		cwnd = mss * uint64(random.Intn(10000)+2)
		peak = cwnd * 10 / 7
		if got := At(peak, Long(peak, cwnd, mss), 0, mss); got < cwnd || got > cwnd+10 {
			t.Fatalf("from %d to %d in packets of %d: begins at %d", cwnd, peak, mss, got)
		}
	}
}

// TestP2205ReturnsToPeak holds that a reduced window is back at its peak when the time that Long tells has passed, and not earlier. (It is, where the window is so large that a Reno window would take longer.)
func TestP2205ReturnsToPeak(t *testing.T) {
	const mss, trip = 1000, 20_000
	for _, peak := range []uint64{1_000_000, 5_000_000, 20_000_000} {
		w := Cut(api.Win{Cwnd: peak, Thresh: peak, Epoch: 1}, 7, 10)
		k := Long(peak, w.Cwnd, mss)
		now := uint64(77)
		for ; now < 77+k-trip; now += trip {
			// A window is acknowledged in each round trip, as packets that came two by two.
			for range w.Cwnd / (2 * mss) {
				w = Grow(w, 2*mss, mss, now, trip)
			}
			if w.Cwnd > peak {
				t.Fatalf("above %d, %d microseconds before its time: %+v", peak, 77+k-now, w)
			}
		}
		for ; now <= 77+k+2*trip; now += trip {
			w = Grow(w, w.Cwnd, mss, now, trip)
		}
		if w.Cwnd < peak || w.Cwnd > peak+mss {
			t.Fatalf("of %d after %d microseconds: %+v", peak, k, w)
		}
	}
}

// TestP2205NoMoreThanAcknowledged holds the purpose for single calls: of a window of at least one packet and not below Fair.
func TestP2205NoMoreThanAcknowledged(t *testing.T) {
	random := rand.New(rand.NewSource(2207))
	for range 100000 {
		mss := drawn(random)
		cwnd := max(drawn(random), mss)
		w := api.Win{Cwnd: cwnd, Thresh: near(random, cwnd), Peak: drawn(random), Epoch: drawn(random), K: drawn(random), Fair: min(drawn(random), cwnd)}
		if random.Intn(2) == 0 {
			w.Epoch = never
		}
		acked, now, smooth := drawn(random), drawn(random), drawn(random)
		got := Grow(w, acked, mss, now, smooth)
		if got.Cwnd < cwnd || got.Cwnd-cwnd > acked {
			t.Fatalf("Grow(%+v, %d, %d, %d, %d) = %+v", w, acked, mss, now, smooth, got)
		}
	}
}

// TestP2205Connections holds the purpose over many acknowledgments and reductions: no window exceeds its first size plus what was acknowledged.
func TestP2205Connections(t *testing.T) {
	random := rand.New(rand.NewSource(2208))
	for range 200 {
		mss := uint64(random.Intn(1500) + 1)
		first := mss * uint64(random.Intn(20)+1)
		w := api.Win{Cwnd: first, Thresh: uint64(random.Intn(100000)), Epoch: never}
		var acked, now uint64
		for range 500 {
			if random.Intn(40) == 0 {
				w = Cut(w, 7, 10)
				w.Cwnd = max(w.Cwnd, mss)
			}
			some := uint64(random.Intn(5)) * mss
			now += uint64(random.Intn(200_000))
			w = Grow(w, some, mss, now, 50_000)
			acked += some
			if w.Cwnd > first+acked {
				t.Fatalf("from %d on, after %d bytes in packets of %d: %+v", first, acked, mss, w)
			}
		}
	}
}
