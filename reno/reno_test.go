package reno

import (
	"math/big"
	"math/rand"
	"testing"

	"splittally/api"
)

// edges tells numbers at both ends of their range and at powers of two.
func edges() []uint64 {
	return []uint64{0, 1, 2, 3, 5, 10, 1200, 1<<32 - 1, 1 << 32, 1<<62 + 1, 1<<63 - 1, 1 << 63, 1<<63 + 1, api.Top - 2, api.Top - 1, api.Top}
}

// drawn tells a number of any length in bits.
func drawn(random *rand.Rand) uint64 { return random.Uint64() >> random.Intn(65) }

// near tells a number that is x or lies beside it.
func near(random *rand.Rand, x uint64) uint64 { return x + uint64(random.Intn(5)) - 2 }

// window tells a window whose other fields are all distinct, so that any change of one of them shows.
func window(cwnd, thresh, acc uint64) api.Win {
	return api.Win{Cwnd: cwnd, Thresh: thresh, Acc: acc, Peak: 101, Epoch: 102, K: 103, Fair: 104}
}

func large(x uint64) *big.Int { return new(big.Int).SetUint64(x) }

func plus(x, y *big.Int) *big.Int { return new(big.Int).Add(x, y) }

func times(x, y *big.Int) *big.Int { return new(big.Int).Mul(x, y) }

// capped tells n, at most Top.
func capped(n *big.Int) uint64 {
	if n.IsUint64() {
		return n.Uint64()
	}
	return api.Top
}

// slowed tells what Slow has to answer, of exact sums and products.
func slowed(w api.Win, acked, mss uint64) api.Win {
	most := times(large(2), large(mss))
	growth := large(acked)
	if growth.Cmp(most) > 0 {
		growth = most
	}
	w.Cwnd = capped(plus(large(w.Cwnd), growth))
	return w
}

// grown tells what Grow has to answer, of exact sums and products.
func grown(w api.Win, acked, mss uint64) api.Win {
	if large(w.Cwnd).Cmp(large(w.Thresh)) < 0 {
		return slowed(w, acked, mss)
	}
	w.Acc = capped(plus(large(w.Acc), large(acked)))
	rest := new(big.Int).Sub(large(w.Acc), large(w.Cwnd))
	if rest.Sign() >= 0 {
		w.Acc = rest.Uint64()
		w.Cwnd = capped(plus(large(w.Cwnd), large(mss)))
	}
	return w
}

// cut tells what Cut has to answer, of an exact product and quotient.
func cut(w api.Win, num, den uint64) api.Win {
	size := uint64(api.Top)
	if den != 0 {
		size = capped(new(big.Int).Quo(times(large(w.Cwnd), large(num)), large(den)))
	}
	w.Thresh, w.Cwnd, w.Acc = size, size, 0
	return w
}

// holdGrowth checks Slow and Grow of the same arguments.
func holdGrowth(t *testing.T, w api.Win, acked, mss uint64) {
	t.Helper()
	if got, want := Slow(w, acked, mss), slowed(w, acked, mss); got != want {
		t.Fatalf("Slow(%+v, %d, %d) = %+v, not %+v", w, acked, mss, got, want)
	}
	if got, want := Grow(w, acked, mss), grown(w, acked, mss); got != want {
		t.Fatalf("Grow(%+v, %d, %d) = %+v, not %+v", w, acked, mss, got, want)
	}
}

// holdCut checks Cut.
func holdCut(t *testing.T, w api.Win, num, den uint64) {
	t.Helper()
	if got, want := Cut(w, num, den), cut(w, num, den); got != want {
		t.Fatalf("Cut(%+v, %d, %d) = %+v, not %+v", w, num, den, got, want)
	}
}

func TestP2101SlowExamples(t *testing.T) {
	for _, x := range []struct {
		cwnd, acked, mss, want uint64
	}{
		{12000, 1200, 1200, 13200},
		{12000, 2399, 1200, 14399},
		{12000, 2400, 1200, 14400},
		{12000, 2401, 1200, 14400},
		{12000, api.Top, 1200, 14400},
		{12000, 0, 1200, 12000},
		{12000, 1200, 0, 12000},
		{0, 0, 0, 0},
		{0, 1, 1, 1},
		{0, 3, 1, 2},
		// The sum saturates.
		{api.Top - 4, 3, 2, api.Top - 1},
		{api.Top - 4, 4, 2, api.Top},
		{api.Top - 4, 5, 3, api.Top},
		{api.Top, 1, 1, api.Top},
		{1, api.Top, api.Top, api.Top},
		// The product saturates; wrapped around it would be 0 or 2.
		{7, 9, 1 << 63, 16},
		{7, 9, 1<<63 + 1, 16},
		{7, api.Top - 7, 1 << 63, api.Top},
		{0, api.Top, 1<<63 - 1, api.Top - 1},
		{0, api.Top, 1 << 63, api.Top},
	} {
		// Slow asks for neither the threshold nor the bytes that were counted.
		for _, w := range []api.Win{window(x.cwnd, 0, 0), window(x.cwnd, 50, api.Top), window(x.cwnd, api.Top, 60)} {
			want := w
			want.Cwnd = x.want
			if got := Slow(w, x.acked, x.mss); got != want {
				t.Errorf("Slow(%+v, %d, %d) = %+v, not %+v", w, x.acked, x.mss, got, want)
			}
		}
	}
}

func TestP2101GrowExamples(t *testing.T) {
	for _, x := range []struct {
		w          api.Win
		acked, mss uint64
		want       api.Win
	}{
		{api.Win{Cwnd: 10}, 10, 3, api.Win{Cwnd: 13}},
		{api.Win{}, 0, 3, api.Win{Cwnd: 3}},
		{api.Win{}, 5, 3, api.Win{Cwnd: 3, Acc: 5}},
		// Slow start ends at the threshold, and counts nothing.
		{window(9, 10, 7), 2, 3, window(11, 10, 7)},
		{window(9, 10, 7), 50, 3, window(15, 10, 7)},
		{window(9, api.Top, 9), 1, 3, window(10, api.Top, 9)},
		{window(10, 10, 7), 2, 3, window(10, 10, 9)},
		{window(11, 10, 7), 2, 3, window(11, 10, 9)},
		// Congestion avoidance: once a window has been acknowledged, by one packet.
		{window(10, 4, 7), 0, 3, window(10, 4, 7)},
		{window(10, 4, 7), 3, 3, window(13, 4, 0)},
		{window(10, 4, 7), 4, 3, window(13, 4, 1)},
		{window(10, 4, 0), 9, 3, window(10, 4, 9)},
		// What is left may be more than a further window: it waits for the next call.
		{window(10, 4, 0), 35, 3, window(13, 4, 25)},
		{window(13, 4, 25), 0, 3, window(16, 4, 12)},
		{window(10, 4, 99), 0, 0, window(10, 4, 89)},
		// The threshold is that of the size ahead of the growth.
		{window(10, 10, 9), 1, 3, window(13, 10, 0)},
		// Both sums saturate.
		{window(10, 4, api.Top), 10, 3, window(13, 4, api.Top-10)},
		{window(10, 4, api.Top-5), 5, 3, window(13, 4, api.Top-10)},
		{window(10, 4, api.Top-5), 6, 3, window(13, 4, api.Top-10)},
		{window(api.Top-2, 4, api.Top), 0, 2, window(api.Top, 4, 2)},
		{window(api.Top-2, 4, api.Top), 0, 3, window(api.Top, 4, 2)},
		{window(api.Top, api.Top, 1), api.Top, 3, window(api.Top, api.Top, 0)},
		{window(api.Top-1, api.Top, 1), api.Top, 3, window(api.Top, api.Top, 1)},
		{window(10, 4, 3), 10, api.Top, window(api.Top, 4, 3)},
	} {
		if got := Grow(x.w, x.acked, x.mss); got != x.want {
			t.Errorf("Grow(%+v, %d, %d) = %+v, not %+v", x.w, x.acked, x.mss, got, x.want)
		}
	}
}

func TestP2101AllEdges(t *testing.T) {
	for _, cwnd := range edges() {
		for _, acc := range edges() {
			for _, acked := range edges() {
				for _, mss := range edges() {
					for _, thresh := range []uint64{0, cwnd, min(cwnd, api.Top-1) + 1, api.Top} {
						holdGrowth(t, window(cwnd, thresh, acc), acked, mss)
					}
				}
			}
		}
	}
}

func TestP2101AllSmall(t *testing.T) {
	const most = 8
	for cwnd := range uint64(most) {
		for thresh := range uint64(most) {
			for acc := range uint64(most) {
				for acked := range uint64(most) {
					for mss := range uint64(most) {
						holdGrowth(t, window(cwnd, thresh, acc), acked, mss)
					}
				}
			}
		}
	}
}

func TestP2101Draws(t *testing.T) {
	random := rand.New(rand.NewSource(2101))
	for range 100000 {
		cwnd, acc, mss := drawn(random), drawn(random), drawn(random)
		holdGrowth(t, window(cwnd, drawn(random), acc), drawn(random), mss)
		holdGrowth(t, window(cwnd, near(random, cwnd), acc), drawn(random), mss)
		// What is counted is a window, but for a few bytes; what is acknowledged is two packets.
		holdGrowth(t, window(cwnd, 0, acc), near(random, cwnd-acc), mss)
		holdGrowth(t, window(cwnd, api.Top, acc), near(random, 2*mss), mss)
	}
}

func TestP2102CutExamples(t *testing.T) {
	for _, x := range []struct {
		cwnd, num, den, want uint64
	}{
		{12000, 1, 2, 6000},
		{12001, 1, 2, 6000},
		{13, 7, 10, 9},
		{19, 7, 10, 13},
		{10, 1, 1, 10},
		{10, 0, 7, 0},
		{10, 1, 11, 0},
		{0, 1, 2, 0},
		{0, api.Top, 1, 0},
		// A fraction above one enlarges the window.
		{10, 3, 2, 15},
		{11, 3, 2, 16},
		// The product needs more than 64 bits, the quotient does not.
		{api.Top, 7, 10, 12912720851596686130},
		{api.Top, api.Top, api.Top, api.Top},
		{1 << 63, 4, 8, 1 << 62},
		{1 << 40, 1 << 40, 1 << 50, 1 << 30},
		// The quotient needs more than 64 bits.
		{1 << 63, 2, 1, api.Top},
		{1<<63 - 1, 2, 1, api.Top - 1},
		{api.Top, 2, 1, api.Top},
		{api.Top, api.Top, 1, api.Top},
		// Nothing is divided by 0.
		{10, 1, 0, api.Top},
		{0, 0, 0, api.Top},
		{api.Top, api.Top, 0, api.Top},
	} {
		for _, w := range []api.Win{window(x.cwnd, 0, 0), window(x.cwnd, 50, api.Top), window(x.cwnd, api.Top, 60)} {
			if got, want := Cut(w, x.num, x.den), window(x.want, x.want, 0); got != want {
				t.Errorf("Cut(%+v, %d, %d) = %+v, not %+v", w, x.num, x.den, got, want)
			}
		}
	}
}

func TestP2102AllEdges(t *testing.T) {
	for _, cwnd := range edges() {
		for _, num := range edges() {
			for _, den := range edges() {
				for _, thresh := range []uint64{0, cwnd, api.Top} {
					holdCut(t, window(cwnd, thresh, 5), num, den)
				}
			}
		}
	}
}

func TestP2102Draws(t *testing.T) {
	random := rand.New(rand.NewSource(2102))
	for range 100000 {
		w := window(drawn(random), drawn(random), drawn(random))
		num := drawn(random)
		holdCut(t, w, num, drawn(random))
		holdCut(t, w, num, near(random, num))
	}
}

func TestP2101P2102OtherFieldsStay(t *testing.T) {
	random := rand.New(rand.NewSource(2100))
	for range 10000 {
		w := api.Win{Cwnd: drawn(random), Thresh: drawn(random), Acc: drawn(random), Peak: drawn(random), Epoch: drawn(random), K: drawn(random), Fair: drawn(random)}
		x, y := drawn(random), drawn(random)
		for _, got := range []api.Win{Slow(w, x, y), Grow(w, x, y), Cut(w, x, y)} {
			got.Cwnd, got.Thresh, got.Acc = w.Cwnd, w.Thresh, w.Acc
			if got != w {
				t.Fatalf("of %+v, %d and %d: %+v", w, x, y, got)
			}
		}
		if Slow(w, x, y).Thresh != w.Thresh || Slow(w, x, y).Acc != w.Acc || Grow(w, x, y).Thresh != w.Thresh {
			t.Fatalf("of %+v, %d and %d: Slow %+v, Grow %+v", w, x, y, Slow(w, x, y), Grow(w, x, y))
		}
	}
}

// paid tells what a window has been given: its size, and the bytes that are counted for its growth.
func paid(w api.Win) *big.Int { return plus(large(w.Cwnd), large(w.Acc)) }

// TestP2103NoMoreThanAcknowledged holds the purpose for a single call: the size and what is counted for growth together increase by no more than what was acknowledged.
func TestP2103NoMoreThanAcknowledged(t *testing.T) {
	for _, cwnd := range edges() {
		for _, acc := range edges() {
			for _, acked := range edges() {
				for _, mss := range edges() {
					most := plus(paid(window(cwnd, 0, acc)), large(acked))
					if got := Slow(window(cwnd, 0, acc), acked, mss); paid(got).Cmp(most) > 0 {
						t.Errorf("Slow of %d with %d counted, %d, %d: %+v", cwnd, acc, acked, mss, got)
					}
					if got := Grow(window(cwnd, api.Top, acc), acked, mss); cwnd < api.Top && paid(got).Cmp(most) > 0 {
						t.Errorf("Grow in slow start of %d with %d counted, %d, %d: %+v", cwnd, acc, acked, mss, got)
					}
					// A window below one packet cannot pay for a packet.
					if got := Grow(window(cwnd, 0, acc), acked, mss); cwnd >= mss && paid(got).Cmp(most) > 0 {
						t.Errorf("Grow of %d with %d counted, %d, %d: %+v", cwnd, acc, acked, mss, got)
					}
				}
			}
		}
	}
}

// TestP2103Connections holds the purpose over many acknowledgments and reductions: no window exceeds its first size plus what was acknowledged.
func TestP2103Connections(t *testing.T) {
	random := rand.New(rand.NewSource(2103))
	for range 200 {
		mss := uint64(random.Intn(1500) + 1)
		first := mss * uint64(random.Intn(20)+1)
		w := window(first, uint64(random.Intn(100000)), 0)
		var acked uint64
		for range 500 {
			if random.Intn(40) == 0 {
				w = Cut(w, 7, 10)
				w.Cwnd = max(w.Cwnd, mss)
			}
			some := uint64(random.Intn(5)) * mss
			w = Grow(w, some, mss)
			acked += some
			if w.Cwnd > first+acked {
				t.Fatalf("from %d on, after %d bytes in packets of %d: %+v", first, acked, mss, w)
			}
		}
	}
}

func TestP2103DoublesInSlowStart(t *testing.T) {
	// Each packet of a window is acknowledged by itself: each round trip doubles the window.
	w := window(4800, api.Top, 0)
	for _, want := range []uint64{9600, 19200, 38400} {
		for range w.Cwnd / 1200 {
			w = Grow(w, 1200, 1200)
		}
		if w != window(want, api.Top, 0) {
			t.Fatalf("after a round trip: %+v, not %d", w, want)
		}
	}
}

func TestP2103OnePacketPerRoundTrip(t *testing.T) {
	// In congestion avoidance each round trip adds one packet to the window.
	w := window(12000, 12000, 0)
	for n := range uint64(50) {
		for range w.Cwnd / 1200 {
			w = Grow(w, 1200, 1200)
		}
		if w != window(12000+(n+1)*1200, 12000, 0) {
			t.Fatalf("after %d round trips: %+v", n+1, w)
		}
	}
}
