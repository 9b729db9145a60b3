package control

import (
	"math/rand"
	"testing"

	"splittally/api"
	"splittally/conf"
	"splittally/cubic"
	"splittally/reno"
)

// never is the Epoch of a window without an epoch.
const never = uint64(api.Top)

// some tells a valid configuration of Reno.
func some() api.Config {
	return api.Config{
		Bits: 32, One: 100, Ring: 64, Limit: 1 << 40, Room: 20000,
		Mss: 1000, Initial: 4000, Least: 3000, Most: 90000, Algo: api.Reno,
		First: 300000, Grain: 1000, Cap: 5000000, Burst: 8000, Slowest: 500, Challenges: 5, Every: 70000,
	}
}

// of tells c with another algorithm.
func of(c api.Config, algo int) api.Config {
	c.Algo = algo
	return c
}

// limited tells c with other limits of its windows.
func limited(c api.Config, mss, initial, least, most uint64) api.Config {
	c.Mss, c.Initial, c.Least, c.Most, c.Burst = mss, initial, least, most, max(mss, c.Burst)
	return c
}

// configs tells valid configurations of both algorithms, at the limits of their windows too.
func configs() []api.Config {
	var l []api.Config
	for _, algo := range []int{api.Reno, api.Cubic} {
		c := of(some(), algo)
		l = append(l, c,
			limited(c, 1, 2, 2, 2),
			limited(c, 1, 5, 2, api.MaxWin),
			limited(c, 1200, 12000, 2400, 1<<20),
			limited(c, api.MaxBody, api.MaxWin, 2*api.MaxBody, api.MaxWin),
			limited(c, api.MaxBody, api.MaxWin, api.MaxWin, api.MaxWin))
	}
	return l
}

// wrong tells configurations of which each has one field that is not valid.
func wrong() []api.Config {
	l := []api.Config{{}}
	for _, algo := range []int{api.Reno, api.Cubic} {
		for _, spoil := range []func(c *api.Config){
			func(c *api.Config) { c.Bits = 0 },
			func(c *api.Config) { c.One = 1 },
			func(c *api.Config) { c.Ring = 3 },
			func(c *api.Config) { c.Limit = api.MaxPn + 1 },
			func(c *api.Config) { c.Room = -1 },
			func(c *api.Config) { c.Mss = 0 },
			func(c *api.Config) { c.Initial = 2999 },
			func(c *api.Config) { c.Least = 1999 },
			func(c *api.Config) { c.Most = api.MaxWin + 1 },
			func(c *api.Config) { c.Algo = 0 },
			func(c *api.Config) { c.Algo = 3 },
			func(c *api.Config) { c.First = 0 },
			func(c *api.Config) { c.Grain = 0 },
			func(c *api.Config) { c.Cap = 999 },
			func(c *api.Config) { c.Burst = 999 },
			func(c *api.Config) { c.Slowest = 0 },
			func(c *api.Config) { c.Challenges = -1 },
			func(c *api.Config) { c.Every = api.MaxTime + 1 },
		} {
			c := of(some(), algo)
			spoil(&c)
			l = append(l, c)
		}
	}
	return l
}

// edges tells numbers at both ends of their range, at limits of windows and at powers of two.
func edges() []uint64 {
	return []uint64{0, 1, 2, 3, 5, 2999, 3000, 3001, 5999, 6000, 6001, 89999, 90000, 90001, 180000, 1<<32 - 1, 1 << 32, 1<<63 - 1, 1 << 63, api.Top - 1, api.Top}
}

// drawn tells a number of any length in bits.
func drawn(random *rand.Rand) uint64 { return random.Uint64() >> random.Intn(65) }

// near tells a number that is x or lies beside it.
func near(random *rand.Rand, x uint64) uint64 { return x + uint64(random.Intn(5)) - 2 }

// anything tells a state with any numbers.
func anything(random *rand.Rand) api.Cc {
	s := api.Cc{
		Win:   api.Win{Cwnd: drawn(random), Thresh: drawn(random), Acc: drawn(random), Peak: drawn(random), Epoch: drawn(random), K: drawn(random), Fair: drawn(random)},
		Round: api.Round{End: drawn(random), Cuts: drawn(random)},
	}
	if random.Intn(2) == 0 {
		s.Win.Epoch = never
	}
	if random.Intn(2) == 0 {
		s.Win.Thresh = near(random, s.Win.Cwnd)
	}
	return s
}

// bounded tells x between the limits of windows of c.
func bounded(c api.Config, x uint64) uint64 {
	if x < c.Least {
		return c.Least
	}
	if x > c.Most {
		return c.Most
	}
	return x
}

// acked tells what Ack has to answer for a valid c. (The growth of windows is checked by reno and cubic.)
func acked(c api.Config, s api.Cc, n, now, smooth uint64) api.Cc {
	switch c.Algo {
	case api.Reno:
		s.Win = reno.Grow(s.Win, n, c.Mss)
	case api.Cubic:
		s.Win = cubic.Grow(s.Win, n, c.Mss, now, smooth)
	}
	s.Win.Cwnd = bounded(c, s.Win.Cwnd)
	return s
}

// reduced tells w after a reduction by Reno to n1 / d1 or by Cubic to n2 / d2, for a valid c.
func reduced(c api.Config, w api.Win, n1, d1, n2, d2 uint64) api.Win {
	switch c.Algo {
	case api.Reno:
		w = reno.Cut(w, n1, d1)
	case api.Cubic:
		w = cubic.Cut(w, n2, d2)
	}
	w.Cwnd = bounded(c, w.Cwnd)
	if w.Thresh < c.Least {
		w.Thresh = c.Least
	}
	return w
}

// turned tells the round after one that a fresh pn ends, as chapter 20 has it.
func turned(r api.Round, pn, next uint64) api.Round {
	end := next
	if next <= pn {
		end = pn
		if end != api.Top {
			end++
		}
	}
	if r.Cuts != api.Top {
		r.Cuts++
	}
	return api.Round{End: end, Cuts: r.Cuts}
}

// holdAck checks Ack of a valid c.
func holdAck(t *testing.T, c api.Config, s api.Cc, n, now, smooth uint64) {
	t.Helper()
	if got, want := Ack(c, s, n, now, smooth), acked(c, s, n, now, smooth); got != want {
		t.Fatalf("Ack(%+v, %+v, %d, %d, %d) = %+v, not %+v", c, s, n, now, smooth, got, want)
	}
}

// holdCuts checks Loss, Mark and Collapse of a valid c.
func holdCuts(t *testing.T, c api.Config, s api.Cc, pn, next uint64) {
	t.Helper()
	fresh, lost, marked := s.Round.End <= pn, s, s
	if fresh {
		r := turned(s.Round, pn, next)
		lost = api.Cc{Win: reduced(c, s.Win, 1, 2, 7, 10), Round: r}
		marked = api.Cc{Win: reduced(c, s.Win, 4, 5, 17, 20), Round: r}
	}
	if got, ok := Loss(c, s, pn, next); got != lost || ok != fresh {
		t.Fatalf("Loss(%+v, %+v, %d, %d) = %+v, %v, not %+v, %v", c, s, pn, next, got, ok, lost, fresh)
	}
	if got, ok := Mark(c, s, pn, next); got != marked || ok != fresh {
		t.Fatalf("Mark(%+v, %+v, %d, %d) = %+v, %v, not %+v, %v", c, s, pn, next, got, ok, marked, fresh)
	}
	down := api.Cc{Win: reduced(c, s.Win, 1, 2, 7, 10), Round: s.Round}
	down.Win.Cwnd = c.Least
	if got := Collapse(c, s); got != down {
		t.Fatalf("Collapse(%+v, %+v) = %+v, not %+v", c, s, got, down)
	}
}

// holdNone checks all functions of a c that is not valid.
func holdNone(t *testing.T, c api.Config, s api.Cc, x, y, z uint64) {
	t.Helper()
	if got := Start(c); got != (api.Cc{}) {
		t.Errorf("Start(%+v) = %+v", c, got)
	}
	if got := Ack(c, s, x, y, z); got != s {
		t.Errorf("Ack(%+v, %+v, %d, %d, %d) = %+v", c, s, x, y, z, got)
	}
	if got, ok := Loss(c, s, x, y); got != s || ok {
		t.Errorf("Loss(%+v, %+v, %d, %d) = %+v, %v", c, s, x, y, got, ok)
	}
	if got, ok := Mark(c, s, x, y); got != s || ok {
		t.Errorf("Mark(%+v, %+v, %d, %d) = %+v, %v", c, s, x, y, got, ok)
	}
	if got := Collapse(c, s); got != s {
		t.Errorf("Collapse(%+v, %+v) = %+v", c, s, got)
	}
}

func TestP2301Start(t *testing.T) {
	for _, c := range configs() {
		if !conf.May(c) {
			t.Fatalf("%+v is not valid", c)
		}
		if got, want := Start(c), (api.Cc{Win: api.Win{Cwnd: c.Initial, Thresh: never, Epoch: never}}); got != want {
			t.Errorf("Start(%+v) = %+v, not %+v", c, got, want)
		}
	}
}

func TestP2301StartOfZero(t *testing.T) {
	if got := Start(api.Config{}); got != (api.Cc{}) {
		t.Errorf("Start of the zero Config is %+v", got)
	}
}

func TestP2301NotValid(t *testing.T) {
	random := rand.New(rand.NewSource(2301))
	for _, c := range wrong() {
		if conf.May(c) {
			t.Fatalf("%+v is valid", c)
		}
		holdNone(t, c, api.Cc{}, 0, 0, 0)
		// Of a valid configuration each of these calls would change the state.
		holdNone(t, c, api.Cc{Win: api.Win{Cwnd: 10000, Thresh: 90000, Acc: 3, Peak: 7, Epoch: 5, K: 6, Fair: 8}, Round: api.Round{End: 5, Cuts: 2}}, 2000, 9, 100)
		holdNone(t, c, api.Cc{Win: api.Win{Cwnd: 10000, Thresh: 10000, Epoch: never}}, 20000, 9, 100)
		holdNone(t, c, api.Cc{Win: api.Win{Cwnd: 1, Thresh: api.Top}}, 1, 2, 3)
		holdNone(t, c, api.Cc{Win: api.Win{Cwnd: api.Top}}, 1, 2, 3)
		for range 100 {
			holdNone(t, c, anything(random), drawn(random), drawn(random), drawn(random))
		}
	}
}

func TestP2302AckExamples(t *testing.T) {
	old := api.Round{End: 3, Cuts: 4}
	for _, x := range []struct {
		algo               int
		w                  api.Win
		acked, now, smooth uint64
		cwnd, acc, peak    uint64
		epoch, k, fair     uint64
		reason             string
	}{
		{api.Reno, api.Win{Cwnd: 4000, Thresh: never, Epoch: never}, 1500, 5, 9, 5500, 0, 0, never, 0, 0, "slow start"},
		{api.Cubic, api.Win{Cwnd: 4000, Thresh: never, Epoch: never}, 1500, 5, 9, 5500, 0, 0, never, 0, 0, "slow start"},
		{api.Reno, api.Win{Cwnd: 4000, Thresh: 4001, Epoch: never}, 9000, 5, 9, 6000, 0, 0, never, 0, 0, "slow start by two packets"},
		{api.Cubic, api.Win{Cwnd: 4000, Thresh: 4001, Epoch: never}, 9000, 5, 9, 6000, 0, 0, never, 0, 0, "slow start by two packets"},
		{api.Reno, api.Win{Cwnd: 10000, Thresh: 10000, Acc: 1, Epoch: never}, 9998, 5, 9, 10000, 9999, 0, never, 0, 0, "less than a window"},
		{api.Reno, api.Win{Cwnd: 10000, Thresh: 10000, Acc: 1, Epoch: never}, 9999, 5, 9, 11000, 0, 0, never, 0, 0, "a window"},
		{api.Reno, api.Win{Cwnd: 10000, Acc: 1, Peak: 2, Epoch: 3, K: 4, Fair: 50000}, 5, 6, 7, 10000, 6, 2, 3, 4, 50000, "the rest is Cubic's"},
		{api.Cubic, api.Win{Cwnd: 10000, Thresh: 10000, Acc: 7, Peak: 20000, Epoch: never}, 5000, 5, 2_924_017, 12500, 7, 20000, 5, 2_924_017, 10264, "an epoch"},
		{api.Reno, api.Win{Cwnd: 89500, Thresh: never}, 2000, 5, 9, 90000, 0, 0, 0, 0, 0, "at most Most"},
		{api.Reno, api.Win{Cwnd: 89500, Acc: 89499}, 1, 5, 9, 90000, 0, 0, 0, 0, 0, "at most Most"},
		{api.Cubic, api.Win{Cwnd: 89500, Thresh: never}, 2000, 5, 9, 90000, 0, 0, 0, 0, 0, "at most Most"},
		{api.Cubic, api.Win{Cwnd: 80000, Peak: 80000, Epoch: 5, Fair: 95000}, 0, 5, 0, 90000, 0, 80000, 5, 0, 95000, "at most Most, and no bound of Fair"},
		{api.Reno, api.Win{Cwnd: 200000, Thresh: never}, 0, 5, 9, 90000, 0, 0, 0, 0, 0, "at most Most"},
		{api.Reno, api.Win{Cwnd: 100, Thresh: never}, 0, 5, 9, 3000, 0, 0, 0, 0, 0, "at least Least"},
		{api.Cubic, api.Win{Thresh: never}, 2999, 5, 9, 3000, 0, 0, 0, 0, 0, "at least Least"},
		{api.Cubic, api.Win{Epoch: never}, 2999, 5, 9, 3000, 0, 0, 5, 0, 0, "at least Least"},
	} {
		c := of(some(), x.algo)
		want := api.Cc{Win: api.Win{Cwnd: x.cwnd, Thresh: x.w.Thresh, Acc: x.acc, Peak: x.peak, Epoch: x.epoch, K: x.k, Fair: x.fair}, Round: old}
		if got := Ack(c, api.Cc{Win: x.w, Round: old}, x.acked, x.now, x.smooth); got != want {
			t.Errorf("%s: with Algo %d, Ack of %+v, %d, %d, %d is %+v, not %+v", x.reason, x.algo, x.w, x.acked, x.now, x.smooth, got, want)
		}
	}
}

func TestP2302AckAllEdges(t *testing.T) {
	few := []uint64{0, 1, 3000, 90000, 1 << 63, api.Top}
	for _, c := range configs() {
		for _, cwnd := range edges() {
			for _, thresh := range []uint64{0, cwnd, cwnd + 1, api.Top} {
				for _, n := range few {
					for _, peak := range few {
						for _, epoch := range []uint64{0, 5_000_000, never} {
							s := api.Cc{Win: api.Win{Cwnd: cwnd, Thresh: thresh, Acc: 5, Peak: peak, Epoch: epoch, K: 900_000, Fair: 2000}, Round: api.Round{End: 7, Cuts: 8}}
							holdAck(t, c, s, n, 6_000_000, 50_000)
							holdAck(t, c, s, n, never, never)
						}
					}
				}
			}
		}
	}
}

func TestP2302AckDraws(t *testing.T) {
	random := rand.New(rand.NewSource(2302))
	for _, c := range configs() {
		for range 10000 {
			s := anything(random)
			holdAck(t, c, s, drawn(random), drawn(random), drawn(random))
			// Windows and times as they occur.
			s.Win.Cwnd = c.Least + drawn(random)%(c.Most-c.Least+1)
			s.Win.Peak = near(random, s.Win.Cwnd*10/7)
			s.Win.K = drawn(random) % 10_000_000
			s.Win.Epoch = min(s.Win.Epoch, 5_000_000)
			holdAck(t, c, s, drawn(random)%(3*c.Mss), 5_000_000+uint64(random.Intn(10_000_000)), uint64(random.Intn(500_000)))
		}
	}
}

// cutExample is what becomes of a window of some: lost and limit are Cwnd and Thresh after a loss, marked and bound those after a mark, and summit is the peak after both.
type cutExample struct {
	algo                               int
	cwnd, peak                         uint64
	lost, limit, marked, bound, summit uint64
}

func cutExamples() []cutExample {
	return []cutExample{
		{api.Reno, 10000, 77, 5000, 5000, 8000, 8000, 77},
		{api.Cubic, 10000, 77, 7000, 7000, 8500, 8500, 10000},
		{api.Cubic, 10000, 10000, 7000, 7000, 8500, 8500, 10000},
		{api.Cubic, 10000, 10001, 7000, 7000, 8500, 8500, 8500},
		// They are rounded down.
		{api.Reno, 10001, 0, 5000, 5000, 8000, 8000, 0},
		{api.Reno, 10004, 0, 5002, 5002, 8003, 8003, 0},
		{api.Cubic, 10009, 0, 7006, 7006, 8507, 8507, 10009},
		// They are at least Least, the threshold too.
		{api.Reno, 6000, 0, 3000, 3000, 4800, 4800, 0},
		{api.Reno, 5999, 0, 3000, 3000, 4799, 4799, 0},
		{api.Reno, 6002, 0, 3001, 3001, 4801, 4801, 0},
		{api.Reno, 3000, 0, 3000, 3000, 3000, 3000, 0},
		{api.Reno, 0, 0, 3000, 3000, 3000, 3000, 0},
		{api.Cubic, 4285, 0, 3000, 3000, 3642, 3642, 4285},
		{api.Cubic, 4287, 0, 3000, 3000, 3643, 3643, 4287},
		{api.Cubic, 3000, 3001, 3000, 3000, 3000, 3000, 2550},
		{api.Cubic, 3529, 0, 3000, 3000, 3000, 3000, 3529},
		{api.Cubic, 3531, 0, 3000, 3000, 3001, 3001, 3531},
		{api.Cubic, 0, 0, 3000, 3000, 3000, 3000, 0},
		// They are at most Most, but the threshold is not bounded above.
		{api.Reno, 90000, 0, 45000, 45000, 72000, 72000, 0},
		{api.Reno, 150000, 0, 75000, 75000, 90000, 120000, 0},
		{api.Reno, 400000, 0, 90000, 200000, 90000, 320000, 0},
		{api.Cubic, 400000, 0, 90000, 280000, 90000, 340000, 400000},
		{api.Reno, api.Top, 0, 90000, 1<<63 - 1, 90000, 14757395258967641292, 0},
		{api.Cubic, api.Top, 0, 90000, 12912720851596686130, 90000, 15679732462653118872, api.Top},
	}
}

// after tells the window that a reduction of w leaves, in the example x.
func (x cutExample) after(w api.Win, cwnd, thresh uint64) api.Win {
	got := api.Win{Cwnd: cwnd, Thresh: thresh, Peak: x.summit, Epoch: never}
	if x.algo == api.Reno {
		got.Epoch, got.K, got.Fair = w.Epoch, w.K, w.Fair
	}
	return got
}

func TestP2302CutExamples(t *testing.T) {
	for _, x := range cutExamples() {
		c := of(some(), x.algo)
		for _, thresh := range []uint64{0, 7, 10000, never} {
			s := api.Cc{Win: api.Win{Cwnd: x.cwnd, Thresh: thresh, Acc: 3, Peak: x.peak, Epoch: 5, K: 6, Fair: 8}, Round: api.Round{End: 5, Cuts: 2}}
			r := api.Round{End: 9, Cuts: 3}
			if got, ok := Loss(c, s, 5, 9); !ok || got != (api.Cc{Win: x.after(s.Win, x.lost, x.limit), Round: r}) {
				t.Errorf("%+v: Loss of %+v is %+v, %v", x, s, got, ok)
			}
			if got, ok := Mark(c, s, 5, 9); !ok || got != (api.Cc{Win: x.after(s.Win, x.marked, x.bound), Round: r}) {
				t.Errorf("%+v: Mark of %+v is %+v, %v", x, s, got, ok)
			}
			if got := Collapse(c, s); got != (api.Cc{Win: x.after(s.Win, 3000, x.limit), Round: s.Round}) {
				t.Errorf("%+v: Collapse of %+v is %+v", x, s, got)
			}
		}
	}
}

func TestP2302RoundExamples(t *testing.T) {
	w := api.Win{Cwnd: 10000, Thresh: 1, Acc: 2, Peak: 3, Epoch: 4, K: 5, Fair: 6}
	for _, x := range []struct {
		r        api.Round
		pn, next uint64
		want     api.Round
		ok       bool
	}{
		{api.Round{}, 0, 1, api.Round{End: 1, Cuts: 1}, true},
		{api.Round{End: 5, Cuts: 2}, 5, 9, api.Round{End: 9, Cuts: 3}, true},
		{api.Round{End: 5, Cuts: 2}, 8, 9, api.Round{End: 9, Cuts: 3}, true},
		{api.Round{End: 5, Cuts: 2}, 4, 9, api.Round{End: 5, Cuts: 2}, false},
		{api.Round{End: 5, Cuts: 2}, 0, 0, api.Round{End: 5, Cuts: 2}, false},
		// A round does not end ahead of the packet that begins it.
		{api.Round{End: 5, Cuts: 2}, 9, 9, api.Round{End: 10, Cuts: 3}, true},
		{api.Round{End: 5, Cuts: 2}, 9, 0, api.Round{End: 10, Cuts: 3}, true},
		{api.Round{End: 5, Cuts: api.Top}, 9, api.Top, api.Round{End: api.Top, Cuts: api.Top}, true},
		{api.Round{End: api.Top}, api.Top, 0, api.Round{End: api.Top, Cuts: 1}, true},
		{api.Round{End: api.Top}, api.Top - 1, api.Top, api.Round{End: api.Top}, false},
	} {
		for _, c := range configs() {
			s := api.Cc{Win: w, Round: x.r}
			if got, ok := Loss(c, s, x.pn, x.next); ok != x.ok || got.Round != x.want || !ok && got != s {
				t.Errorf("Loss(%+v, %+v, %d, %d) = %+v, %v", c, s, x.pn, x.next, got, ok)
			}
			if got, ok := Mark(c, s, x.pn, x.next); ok != x.ok || got.Round != x.want || !ok && got != s {
				t.Errorf("Mark(%+v, %+v, %d, %d) = %+v, %v", c, s, x.pn, x.next, got, ok)
			}
			if got := Collapse(c, s); got.Round != x.r || got.Win.Cwnd != c.Least {
				t.Errorf("Collapse(%+v, %+v) = %+v", c, s, got)
			}
		}
	}
}

func TestP2302CutAllEdges(t *testing.T) {
	few := []uint64{0, 1, 5, 1 << 63, api.Top - 1, api.Top}
	for _, c := range configs() {
		for _, cwnd := range append(edges(), c.Least, 2*c.Least, 2*c.Least+1, c.Most, 2*c.Most, 2*c.Most+2) {
			for _, peak := range []uint64{0, cwnd - 1, cwnd, cwnd + 1, api.Top} {
				s := api.Cc{Win: api.Win{Cwnd: cwnd, Thresh: 1, Acc: 2, Peak: peak, Epoch: 3, K: 4, Fair: 5}}
				for _, end := range few {
					for _, pn := range few {
						for _, next := range few {
							s.Round = api.Round{End: end, Cuts: next}
							holdCuts(t, c, s, pn, next)
						}
					}
				}
			}
		}
	}
}

func TestP2302CutDraws(t *testing.T) {
	random := rand.New(rand.NewSource(2303))
	for _, c := range configs() {
		for range 10000 {
			s := anything(random)
			holdCuts(t, c, s, drawn(random), drawn(random))
			// Windows and numbers as they occur.
			s.Win.Cwnd = c.Least + drawn(random)%(c.Most-c.Least+1)
			s.Win.Peak = near(random, s.Win.Cwnd)
			pn := near(random, s.Round.End)
			holdCuts(t, c, s, pn, near(random, pn))
		}
	}
}

// TestP2303Limits holds that no call leaves a window outside of the limits, whatever it was before. (A call that changes nothing leaves it as it was.)
func TestP2303Limits(t *testing.T) {
	random := rand.New(rand.NewSource(2304))
	for _, c := range configs() {
		for range 10000 {
			s := anything(random)
			pn := max(drawn(random), s.Round.End)
			lost, one := Loss(c, s, pn, drawn(random))
			marked, two := Mark(c, s, pn, drawn(random))
			if !one || !two {
				t.Fatalf("nothing reduces %+v at %d", s, pn)
			}
			for _, got := range []api.Cc{lost, marked, Collapse(c, s), Ack(c, s, drawn(random), drawn(random), drawn(random))} {
				if got.Win.Cwnd < c.Least || got.Win.Cwnd > c.Most {
					t.Fatalf("of %+v with %+v: %+v", s, c, got)
				}
			}
			if lost.Win.Thresh < c.Least || marked.Win.Thresh < c.Least {
				t.Fatalf("of %+v with %+v: %+v, %+v", s, c, lost, marked)
			}
		}
	}
}

// connection is a sender that holds the purpose over what befalls it: next is its next number, ends the one at its last reduction.
type connection struct {
	c          api.Config
	s          api.Cc
	next, ends uint64
	cuts       uint64
}

// befall lets a packet be lost or marked, and tells whether the purpose holds.
func (f *connection) befall(event func(api.Config, api.Cc, uint64, uint64) (api.Cc, bool), pn uint64) bool {
	before := f.s
	after, ok := event(f.c, before, pn, f.next)
	f.s = after
	if pn < f.ends {
		return !ok && after == before
	}
	f.ends = f.next
	f.cuts++
	return ok && after.Win.Cwnd <= before.Win.Cwnd && after.Round.Cuts == f.cuts
}

// TestP2303Connections holds the purpose over many events: the window stays between the limits, and of the packets that are lost or marked only one that was sent after the last reduction causes another.
func TestP2303Connections(t *testing.T) {
	random := rand.New(rand.NewSource(2305))
	for _, c := range configs() {
		for range 20 {
			f := connection{c: c, s: Start(c), next: 1}
			now := uint64(0)
			for range 500 {
				f.next += uint64(random.Intn(3))
				now += uint64(random.Intn(50_000))
				pn := f.next - 1 - min(uint64(random.Intn(20)), f.next-1)
				good := true
				switch random.Intn(20) {
				case 0:
					good = f.befall(Loss, pn)
				case 1:
					good = f.befall(Mark, pn)
				case 2:
					round := f.s.Round
					f.s = Collapse(c, f.s)
					good = f.s.Round == round && f.s.Win.Cwnd == c.Least
				default:
					f.s = Ack(c, f.s, uint64(random.Intn(5))*c.Mss, now, 40_000)
				}
				if !good || f.s.Win.Cwnd < c.Least || f.s.Win.Cwnd > c.Most {
					t.Fatalf("with %+v at the number %d, packet %d: %+v", c, f.next, pn, f.s)
				}
			}
		}
	}
}
