package probe

import (
	"math/big"
	"math/rand"
	"testing"

	"splittally/api"
)

// counts tells counts at both ends of their range and at the limits.
func counts() []int {
	return []int{-1 << 63, -1<<63 + 1, -api.MaxCount, -2, -1, 0, 1, 2, 3, 31, 32,
		api.MaxCount - 2, api.MaxCount - 1, api.MaxCount, api.MaxCount + 1, 62, 63, 64, 65, 1 << 32, 1<<63 - 2, 1<<63 - 1}
}

// times tells times and amounts at both ends of their range and at powers of two.
func times() []uint64 {
	return []uint64{0, 1, 2, 3, 5, 10, 99, 100, 1<<32 - 1, 1 << 32, 1<<62 - 1, 1 << 62, 1<<63 - 1, 1 << 63, 1<<63 + 1, api.Top - 2, api.Top - 1, api.Top}
}

func large(x uint64) *big.Int { return new(big.Int).SetUint64(x) }

// lesser tells the lesser one of x and y.
func lesser(x, y *big.Int) *big.Int {
	if x.Cmp(y) < 0 {
		return x
	}
	return y
}

// want tells what Deadline has to answer, of exact sums, doubling by doubling.
func want(p api.Probe, flying bool, timeout, most uint64) uint64 {
	if !flying {
		return api.Top
	}
	wait := large(timeout)
	// More than 64 doublings change nothing, since they are either of 0 or beyond Top.
	for range min(max(p.Count, 0), 70) {
		wait.Add(wait, wait)
	}
	wait = lesser(wait, large(most))
	return lesser(wait.Add(wait, large(p.From)), large(api.Top)).Uint64()
}

func holdDeadline(t *testing.T, p api.Probe, flying bool, timeout, most uint64) {
	t.Helper()
	if got := Deadline(p, flying, timeout, most); got != want(p, flying, timeout, most) {
		t.Fatalf("Deadline(%+v, %v, %d, %d) = %d, not %d", p, flying, timeout, most, got, want(p, flying, timeout, most))
	}
}

func TestP1901DeadlineExamples(t *testing.T) {
	for _, x := range []struct {
		p             api.Probe
		flying        bool
		timeout, most uint64
		want          uint64
	}{
		{api.Probe{From: 5}, true, 10, 99, 15},
		{api.Probe{Count: 1, From: 5}, true, 10, 99, 25},
		{api.Probe{Count: 3, From: 5}, true, 10, 99, 85},
		{api.Probe{Count: 4, From: 5}, true, 10, 99, 104},
		{api.Probe{Count: 4, From: 5}, true, 10, 160, 165},
		{api.Probe{Count: 4, From: 5}, true, 10, 159, 164},
		{api.Probe{Count: 4, From: 5}, true, 10, 161, 165},
		{api.Probe{Count: 1<<63 - 1, From: 5}, true, 10, 99, 104},
		{api.Probe{Count: 1<<63 - 1, From: 5}, true, 0, 99, 5},
		{api.Probe{Count: -1, From: 5}, true, 10, 99, 15},
		{api.Probe{Count: -1 << 63, From: 5}, true, 10, 99, 15},
		{api.Probe{From: 5}, true, 10, 9, 14},
		{api.Probe{From: 5}, true, 10, 0, 5},
		{api.Probe{}, true, 0, 0, 0},
		{api.Probe{From: api.Top - 10}, true, 10, 99, api.Top},
		{api.Probe{From: api.Top - 10}, true, 9, 99, api.Top - 1},
		{api.Probe{From: api.Top - 10}, true, 11, 99, api.Top},
		{api.Probe{From: api.Top}, true, 1, 1, api.Top},
		{api.Probe{Count: 63}, true, 1, api.Top, 1 << 63},
		{api.Probe{Count: 64}, true, 1, api.Top, api.Top},
		{api.Probe{From: 5}, false, 10, 99, api.Top},
		{api.Probe{Count: 4, From: 5}, false, 0, 0, api.Top},
		{api.Probe{}, false, 0, 0, api.Top},
	} {
		if got := Deadline(x.p, x.flying, x.timeout, x.most); got != x.want {
			t.Errorf("Deadline(%+v, %v, %d, %d) = %d, not %d", x.p, x.flying, x.timeout, x.most, got, x.want)
		}
	}
}

func TestP1901DeadlineOfAllEdges(t *testing.T) {
	for _, count := range counts() {
		for _, from := range times() {
			for _, timeout := range times() {
				for _, most := range times() {
					p := api.Probe{Count: count, From: from}
					holdDeadline(t, p, true, timeout, most)
					holdDeadline(t, p, false, timeout, most)
				}
			}
		}
	}
}

func TestP1901DeadlineOfDraws(t *testing.T) {
	source := rand.New(rand.NewSource(19))
	word := func() uint64 { return source.Uint64() >> source.Intn(64) }
	for range 100_000 {
		p := api.Probe{Count: source.Intn(72) - 4, From: word()}
		holdDeadline(t, p, source.Intn(8) > 0, word(), word())
	}
}

func TestP1901Fired(t *testing.T) {
	for _, x := range []struct{ count, want int }{
		{-1 << 63, 1}, {-2, 1}, {-1, 1}, {0, 1}, {1, 2}, {2, 3},
		{api.MaxCount - 2, api.MaxCount - 1}, {api.MaxCount - 1, api.MaxCount}, {api.MaxCount, api.MaxCount},
		{api.MaxCount + 1, api.MaxCount}, {1 << 32, api.MaxCount}, {1<<63 - 2, api.MaxCount}, {1<<63 - 1, api.MaxCount},
	} {
		for _, from := range times() {
			for _, now := range times() {
				p := api.Probe{Count: x.count, From: from}
				if got := Fired(p, now); got != (api.Probe{Count: x.want, From: now}) {
					t.Fatalf("Fired(%+v, %d) = %+v", p, now, got)
				}
			}
		}
	}
	for count := range api.MaxCount {
		if got := Fired(api.Probe{Count: count}, 7); got != (api.Probe{Count: count + 1, From: 7}) {
			t.Fatalf("Fired of a count of %d: %+v", count, got)
		}
	}
}

func TestP1901CalmAndSent(t *testing.T) {
	for _, count := range counts() {
		for _, from := range times() {
			for _, now := range times() {
				p := api.Probe{Count: count, From: from}
				if got := Calm(p, now); got != (api.Probe{From: now}) {
					t.Fatalf("Calm(%+v, %d) = %+v", p, now, got)
				}
				// Neither bound of Fired holds here.
				if got := Sent(p, now); got != (api.Probe{Count: count, From: now}) {
					t.Fatalf("Sent(%+v, %d) = %+v", p, now, got)
				}
			}
		}
	}
}

// TestP1902Doubles follows a timer that goes off whenever it is due.
func TestP1902Doubles(t *testing.T) {
	for _, timeout := range []uint64{1, 3, 10, 999, 300_000} {
		for _, most := range []uint64{1, 9, 10, 80, 1000, api.Second, 60 * api.Second, api.MaxTime} {
			p, wait := Calm(api.Probe{Count: 9, From: 9}, 1000), min(timeout, most)
			for turn := range 100 {
				due := Deadline(p, true, timeout, most)
				if due != p.From+wait {
					t.Fatalf("%d up to %d, turn %d: %d behind %d, not %d", timeout, most, turn, due, p.From, wait)
				}
				p, wait = Fired(p, due), min(2*wait, most)
			}
			if wait != most {
				t.Fatalf("%d never comes up to %d, but to %d", timeout, most, wait)
			}
		}
	}
}

// TestP1902BeginsAnew holds that packets leave the doubling as it is, and that an acknowledgment ends it.
func TestP1902BeginsAnew(t *testing.T) {
	p := Fired(Fired(Calm(api.Probe{}, 100), 110), 130)
	if due := Deadline(p, true, 10, 1000); due != 170 {
		t.Fatalf("behind two probes: %d", due)
	}
	p = Sent(p, 150)
	if due := Deadline(p, true, 10, 1000); due != 190 {
		t.Fatalf("behind a packet: %d", due)
	}
	p = Calm(p, 160)
	if due := Deadline(p, true, 10, 1000); due != 170 {
		t.Fatalf("behind an acknowledgment: %d", due)
	}
	if due := Deadline(p, false, 10, 1000); due != api.Top {
		t.Fatalf("behind the last one: %d", due)
	}
}
