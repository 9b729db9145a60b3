package budget

import (
	"math"
	"math/rand"
	"slices"
	"testing"

	"splittally/api"
)

// model is a plain budget: it keeps the time of every grant and counts them anew at each request.
type model struct {
	most  int
	every uint64
	now   uint64
	times []uint64
}

// modelOf tells the model of New(most, every).
func modelOf(most int, every uint64) *model {
	return &model{most: max(0, min(api.MaxGrant, most)), every: every}
}

func (m *model) ask(now uint64) bool {
	if now > m.now {
		m.now = now
	}
	near := 0
	for _, t := range m.times {
		if m.now-t < m.every {
			near++
		}
	}
	if near >= m.most {
		return false
	}
	m.times = append(m.times, m.now)
	return true
}

// fork tells an independent model in the same state.
func (m *model) fork() *model {
	f := *m
	f.times = slices.Clone(m.times)
	return &f
}

// same asks both at now, and holds the answer and the number of grants against the model's.
func same(t *testing.T, b *Budget, m *model, now uint64) {
	t.Helper()
	want := m.ask(now)
	if got := b.Ask(now); got != want {
		t.Fatalf("most %d, every %d: Ask(%d) is %v, want %v behind grants at %d", m.most, m.every, now, got, want, m.times)
	}
	if got := b.Granted(); got != len(m.times) {
		t.Fatalf("most %d, every %d: %d granted, want %d", m.most, m.every, got, len(m.times))
	}
}

// ask is a request and its answer.
type ask struct {
	now  uint64
	want bool
}

// asks holds the answers of b against those of the list, and Granted against how many of them are true.
func asks(t *testing.T, b *Budget, l ...ask) {
	t.Helper()
	granted := b.Granted()
	for i, x := range l {
		if got := b.Ask(x.now); got != x.want {
			t.Errorf("the request %d of %v: %v", i, l, got)
		}
		if x.want {
			granted++
		}
		if got := b.Granted(); got != granted {
			t.Errorf("behind the request %d of %v: %d granted, want %d", i, l, got, granted)
		}
	}
}

func TestP1501Example(t *testing.T) {
	asks(t, New(1, 10), ask{5, true}, ask{14, false}, ask{15, true})
}

func TestP1501Ask(t *testing.T) {
	// A grant counts for exactly every microseconds, from its own time on.
	asks(t, New(1, 10), ask{0, true}, ask{0, false}, ask{1, false}, ask{9, false}, ask{10, true}, ask{19, false}, ask{20, true})
	asks(t, New(1, 1), ask{0, true}, ask{0, false}, ask{1, true}, ask{1, false}, ask{2, true})
	// Each grant leaves by itself, not all at once.
	asks(t, New(2, 10), ask{5, true}, ask{9, true}, ask{14, false}, ask{15, true}, ask{18, false}, ask{19, true}, ask{19, false}, ask{24, false}, ask{25, true})
	// Grants of one time leave together.
	asks(t, New(3, 10), ask{5, true}, ask{5, true}, ask{6, true}, ask{14, false}, ask{15, true}, ask{15, true}, ask{15, false}, ask{16, true}, ask{16, false})
	// A refused request counts for nothing.
	asks(t, New(1, 10), ask{5, true}, ask{6, false}, ask{13, false}, ask{14, false}, ask{15, true})
	// Grants that nobody asked for are not saved up.
	asks(t, New(2, 10), ask{1000, true}, ask{1000, true}, ask{1000, false}, ask{5000, true}, ask{5000, true}, ask{5000, false})
}

// A time that goes back counts as the greatest one so far, be it of a request that was granted or refused.
func TestP1501TimeGoesBack(t *testing.T) {
	asks(t, New(1, 10), ask{20, true}, ask{5, false}, ask{29, false}, ask{0, false}, ask{30, true}, ask{20, false}, ask{39, false}, ask{40, true})
	asks(t, New(2, 10), ask{20, true}, ask{5, true}, ask{29, false}, ask{15, false}, ask{30, true}, ask{0, true}, ask{30, false}, ask{39, false}, ask{40, true})
	asks(t, New(1, 10), ask{5, true}, ask{14, false}, ask{6, false}, ask{15, true}, ask{0, false}, ask{24, false}, ask{25, true})
	asks(t, New(2, 10), ask{api.Top, true}, ask{0, true}, ask{0, false}, ask{5, false}, ask{api.Top, false})
}

func TestP1501EndOfTime(t *testing.T) {
	asks(t, New(2, 10), ask{api.Top - 10, true}, ask{api.Top - 1, true}, ask{api.Top - 1, false}, ask{api.Top, true}, ask{api.Top, false})
	asks(t, New(1, 1), ask{api.Top - 1, true}, ask{api.Top, true}, ask{api.Top, false})
	asks(t, New(1, api.Top), ask{0, true}, ask{1 << 63, false}, ask{api.Top - 1, false}, ask{api.Top, true}, ask{api.Top, false})
	asks(t, New(1, api.Top), ask{1, true}, ask{api.Top, false}, ask{0, false})
	asks(t, New(1, 1<<63), ask{1<<63 - 1, true}, ask{api.Top - 1, false}, ask{api.Top, true})
}

// At every time, exactly as many requests are granted as the range of most allows.
func TestP1501Most(t *testing.T) {
	for _, x := range []struct{ most, want int }{
		{math.MinInt, 0},
		{-1 << 32, 0},
		{-65, 0},
		{-1, 0},
		{0, 0},
		{1, 1},
		{2, 2},
		{63, 63},
		{64, 64},
		{65, 64},
		{66, 64},
		{128, 64},
		{1<<32 + 1, 64},
		{math.MaxInt, 64},
	} {
		for _, every := range []uint64{1, 10, api.Top} {
			b := New(x.most, every)
			for n := range 200 {
				if got := b.Ask(7); got != (n < x.want) {
					t.Errorf("most %d, every %d: the request %d: %v", x.most, every, n, got)
				}
			}
			if got := b.Granted(); got != x.want {
				t.Errorf("most %d, every %d: %d granted, want %d", x.most, every, got, x.want)
			}
		}
	}
}

// No grant is less than 0 microseconds ago, so that an interval of 0 refuses only where nothing is ever granted.
func TestP1501NoInterval(t *testing.T) {
	for _, most := range []int{1, 2, api.MaxGrant, math.MaxInt} {
		b := New(most, 0)
		for n := range 300 {
			if !b.Ask(uint64(n / 100)) {
				t.Fatalf("most %d, every 0: the request %d is refused", most, n)
			}
		}
		if got := b.Granted(); got != 300 {
			t.Errorf("most %d, every 0: %d granted", most, got)
		}
	}
	for _, most := range []int{0, -1, math.MinInt} {
		asks(t, New(most, 0), ask{0, false}, ask{5, false}, ask{0, false}, ask{api.Top, false})
	}
}

// Granted counts all grants, those that are long ago too.
func TestP1501Granted(t *testing.T) {
	b := New(3, 10)
	for n := range 1000 {
		if got := b.Granted(); got != 3*n {
			t.Fatalf("%d granted, want %d", got, 3*n)
		}
		for range 3 {
			b.Ask(uint64(10 * n))
		}
		if b.Ask(uint64(10*n + 9)) {
			t.Fatal("a fourth request is granted within the interval that began at", 10*n)
		}
	}
}

func TestP1501Nil(t *testing.T) {
	var b *Budget
	for _, now := range []uint64{0, 5, api.Top} {
		if b.Ask(now) || b.Granted() != 0 || b.Fork() != nil {
			t.Error("a nil budget grants something")
		}
	}
}

// All rows of six requests at times from 0 to 4, forwards and back, for all small budgets.
func TestP1501Exact(t *testing.T) {
	const times, requests = 5, 6
	for most := -1; most < 4; most++ {
		for every := range uint64(5) {
			for code := range times * times * times * times * times * times {
				b, m := New(most, every), modelOf(most, every)
				for range requests {
					same(t, b, m, uint64(code%times))
					code /= times
				}
			}
		}
	}
}

// Long random runs over budgets of every size, close to 0 and to the end of time.
func TestP1501Drawn(t *testing.T) {
	r := rand.New(rand.NewSource(15))
	seen := map[bool]int{}
	for range 300 {
		most, every := r.Intn(70)-2, uint64(r.Intn(40))
		b, m := New(most, every), modelOf(most, every)
		now := []uint64{0, 1 << 63, api.Top - 300}[r.Intn(3)]
		for range 600 {
			asked := now
			if r.Intn(4) == 0 {
				asked -= min(now, uint64(r.Intn(50)))
			}
			before := len(m.times)
			same(t, b, m, asked)
			seen[len(m.times) > before]++
			if r.Intn(20) == 0 {
				now += min(api.Top-now, uint64(r.Intn(30)))
			}
		}
	}
	if seen[true] < 10000 || seen[false] < 10000 {
		t.Error("granted and refused:", seen)
	}
}

// A fork has the limit, the interval, the time, the grants and their number of its origin, and neither moves the other.
func TestP1501Fork(t *testing.T) {
	r := rand.New(rand.NewSource(1501))
	for range 2000 {
		most, every := r.Intn(6), uint64(r.Intn(12))
		b, m := New(most, every), modelOf(most, every)
		for range r.Intn(12) {
			same(t, b, m, uint64(r.Intn(20)))
		}
		f, g := b.Fork(), m.fork()
		if f == nil || f == b {
			t.Fatal("no budget of its own")
		}
		if f.Granted() != b.Granted() {
			t.Fatalf("the fork of %d grants has %d", b.Granted(), f.Granted())
		}
		for range 20 {
			if r.Intn(2) == 0 {
				same(t, b, m, uint64(r.Intn(40)))
			} else {
				same(t, f, g, uint64(r.Intn(40)))
			}
		}
	}
}

// Forks that grant at different times do not share where they keep them.
func TestP1501ForksShareNothing(t *testing.T) {
	for ahead := range 8 {
		b := New(8, 100)
		for n := range ahead {
			b.Ask(uint64(n))
		}
		f := b.Fork()
		g := f.Fork()
		for range 8 - ahead {
			asks(t, b, ask{10, true})
			asks(t, f, ask{20, true})
			asks(t, g, ask{30, true})
		}
		asks(t, b, ask{10, false})
		asks(t, f, ask{20, false})
		asks(t, g, ask{30, false})
		for n := range uint64(ahead) {
			for _, x := range []*Budget{b, f, g} {
				asks(t, x, ask{100 + n, true}, ask{100 + n, false})
			}
		}
		asks(t, b, ask{109, false})
		asks(t, f, ask{119, false})
		asks(t, g, ask{129, false})
		for range 8 - ahead {
			asks(t, b, ask{110, true})
			asks(t, f, ask{120, true})
			asks(t, g, ask{130, true})
		}
	}
}

// spaced reports whether no most + 1 of the times, which ascend, are within less than every microseconds.
func spaced(times []uint64, most int, every uint64) bool {
	for i := most; i < len(times); i++ {
		if times[i]-times[i-most] < every {
			return false
		}
	}
	return true
}

// However it is asked, and whether it is forked in between, no interval of every microseconds holds more than most grants.
func TestP1502NoIntervalHoldsMore(t *testing.T) {
	r := rand.New(rand.NewSource(1502))
	for range 500 {
		most, every := 1+r.Intn(api.MaxGrant), uint64(1+r.Intn(100))
		b := New(most, every)
		now, greatest, times := uint64(0), uint64(0), []uint64(nil)
		for range 1000 {
			if r.Intn(10) == 0 {
				now += uint64(r.Intn(40))
			}
			if r.Intn(50) == 0 {
				b = b.Fork()
			}
			asked := now
			if r.Intn(5) == 0 {
				asked = uint64(r.Intn(int(now) + 1))
			}
			greatest = max(greatest, asked)
			if b.Ask(asked) {
				times = append(times, greatest)
			}
		}
		if !spaced(times, most, every) {
			t.Fatalf("most %d, every %d: granted at %d", most, every, times)
		}
		if len(times) < most {
			t.Fatalf("most %d, every %d: only %d granted", most, every, len(times))
		}
	}
}

// Whoever asks without end gets most grants in every interval that begins with a grant, and no more.
func TestP1502AskedWithoutEnd(t *testing.T) {
	for _, most := range []int{1, 2, 7, api.MaxGrant} {
		for _, every := range []uint64{1, 2, 9, 50} {
			b := New(most, every)
			for now := range uint64(300) {
				granted := 0
				for range most + 3 {
					if b.Ask(now) {
						granted++
					}
				}
				want := 0
				if now%every == 0 {
					want = most
				}
				if granted != want {
					t.Fatalf("most %d, every %d: %d granted at %d, want %d", most, every, granted, now, want)
				}
			}
		}
	}
}
