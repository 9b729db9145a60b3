package pacer

import (
	"math/big"
	"math/rand"
	"testing"

	"splittally/api"
)

const (
	top   = uint64(api.Top)
	never = top
	// whole is the greatest number of bytes that have tokens of their own: those of more are saturated.
	whole = top / 1_000_000
)

// edges tells numbers at both ends of their range, at limits of the pacer and at powers of two.
func edges() []uint64 {
	return []uint64{0, 1, 2, 3, 7, 999_999, 1_000_000, 1_000_001, 1_500_000_000, 1<<32 - 1, 1 << 32, 1<<32 + 1, 1 << 40, whole - 1, whole, whole + 1, 1<<63 - 1, 1 << 63, top - 1, top}
}

// drawn tells a number of any length in bits, or one of the edges.
func drawn(random *rand.Rand) uint64 {
	if random.Intn(4) == 0 {
		l := edges()
		return l[random.Intn(len(l))]
	}
	return random.Uint64() >> random.Intn(65)
}

// near tells a number that is x or lies beside it.
func near(random *rand.Rand, x uint64) uint64 { return x + uint64(random.Intn(5)) - 2 }

// call is what Fill, Set, Take and Next are called with.
type call struct {
	p                api.Pace
	burst, now, size uint64
}

// anything tells a call with any numbers.
func anything(random *rand.Rand) call {
	p := api.Pace{Tokens: drawn(random), At: drawn(random), Rate: drawn(random)}
	return call{p: p, burst: drawn(random), now: drawn(random), size: drawn(random)}
}

// likely tells a call as it occurs: a bucket of some packets, a rate of some packets in a round trip, and times and tokens close to where Take changes its answer.
func likely(random *rand.Rand) call {
	x := call{burst: uint64(random.Intn(20_000)), size: uint64(random.Intn(3000))}
	x.p = api.Pace{Tokens: uint64(random.Intn(20_000_000_000)), At: uint64(random.Intn(1_000_000)), Rate: uint64(random.Intn(1 << 24))}
	switch random.Intn(4) {
	case 0:
		x.p.Tokens = near(random, 1_000_000*x.size)
	case 1:
		x.p.Tokens = near(random, 1_000_000*x.burst)
	}
	x.now = near(random, x.p.At)
	if random.Intn(2) == 0 {
		x.now = x.p.At + uint64(random.Intn(10_000))
	}
	return x
}

// some tells n calls of either kind.
func some(seed int64, n int) []call {
	random := rand.New(rand.NewSource(seed))
	var l []call
	for range n {
		l = append(l, anything(random), likely(random))
	}
	return l
}

func large(x uint64) *big.Int { return new(big.Int).SetUint64(x) }

func plus(x, y *big.Int) *big.Int { return new(big.Int).Add(x, y) }

func times(x, y *big.Int) *big.Int { return new(big.Int).Mul(x, y) }

// capped tells n, at most Top.
func capped(n *big.Int) uint64 {
	if n.IsUint64() {
		return n.Uint64()
	}
	return top
}

// millions tells the tokens of so many bytes.
func millions(bytes uint64) uint64 { return capped(times(large(bytes), large(1_000_000))) }

// slower tells the rate, or the greatest one if that is less.
func slower(rate uint64) uint64 {
	if rate > api.MaxRate {
		return api.MaxRate
	}
	return rate
}

// filled tells what Fill has to answer.
func filled(x call) api.Pace {
	p := x.p
	sum := large(p.Tokens)
	if x.now > p.At {
		sum = plus(sum, times(large(p.Rate), large(x.now-p.At)))
		p.At = x.now
	}
	p.Tokens = capped(sum)
	if full := millions(x.burst); p.Tokens > full {
		p.Tokens = full
	}
	return p
}

// taken tells what Take has to answer.
func taken(x call) (api.Pace, bool) {
	p := filled(x)
	if p.Tokens < millions(x.size) {
		return p, false
	}
	p.Tokens -= millions(x.size)
	return p, true
}

// granted reports whether Take has to grant x at the time t.
func granted(x call, t uint64) bool {
	x.now = t
	_, ok := taken(x)
	return ok
}

// earliest tells what Next has to answer: since Take grants at every time behind one at which it grants, halving finds the first one.
func earliest(x call) uint64 {
	low, high := max(x.now, x.p.At), never
	for low < high {
		middle := low + (high-low)/2
		if granted(x, middle) {
			high = middle
		} else {
			low = middle + 1
		}
	}
	return low
}

func checkFill(t *testing.T, x call, want api.Pace) {
	t.Helper()
	if got := Fill(x.p, x.burst, x.now); got != want {
		t.Errorf("Fill(%+v, %d, %d) is %+v, want %+v", x.p, x.burst, x.now, got, want)
	}
}

func checkSet(t *testing.T, x call, rate uint64) {
	t.Helper()
	want := filled(x)
	want.Rate = slower(rate)
	if got := Set(x.p, x.burst, x.now, rate); got != want {
		t.Errorf("Set(%+v, %d, %d, %d) is %+v, want %+v", x.p, x.burst, x.now, rate, got, want)
	}
}

func checkTake(t *testing.T, x call, want api.Pace, ok bool) {
	t.Helper()
	if got, is := Take(x.p, x.burst, x.now, x.size); got != want || is != ok {
		t.Errorf("Take(%+v, %d, %d, %d) is %+v, %v, want %+v, %v", x.p, x.burst, x.now, x.size, got, is, want, ok)
	}
}

func checkNext(t *testing.T, x call, want uint64) {
	t.Helper()
	if got := Next(x.p, x.burst, x.now, x.size); got != want {
		t.Errorf("Next(%+v, %d, %d, %d) is %d, want %d", x.p, x.burst, x.now, x.size, got, want)
	}
}

func TestP2401Start(t *testing.T) {
	for _, x := range []struct{ burst, now, rate, tokens, limited uint64 }{
		{0, 0, 0, 0, 0},
		{0, 5, 7, 0, 7},
		{10, 5, 7, 10_000_000, 7},
		{1500, 0, api.MaxRate - 1, 1_500_000_000, api.MaxRate - 1},
		{1500, 0, api.MaxRate, 1_500_000_000, api.MaxRate},
		{1500, 0, api.MaxRate + 1, 1_500_000_000, api.MaxRate},
		{api.MaxWin, top, top, 1_000_000 << 30, api.MaxRate},
		{whole, 1, 1, 18_446_744_073_709_000_000, 1},
		{whole + 1, 1, 1, top, 1},
		{top, 1, 0, top, 0},
	} {
		want := api.Pace{Tokens: x.tokens, At: x.now, Rate: x.limited}
		if got := Start(x.burst, x.now, x.rate); got != want {
			t.Errorf("Start(%d, %d, %d) is %+v, want %+v", x.burst, x.now, x.rate, got, want)
		}
	}
}

func TestP2401StartAllEdges(t *testing.T) {
	for _, burst := range edges() {
		for _, now := range edges() {
			for _, rate := range edges() {
				want := api.Pace{Tokens: millions(burst), At: now, Rate: slower(rate)}
				if got := Start(burst, now, rate); got != want {
					t.Errorf("Start(%d, %d, %d) is %+v, want %+v", burst, now, rate, got, want)
				}
			}
		}
	}
}

func TestP2401Rate(t *testing.T) {
	for _, x := range []struct{ cwnd, smooth, slowest, want uint64 }{
		{6000, 50_000, 1000, 150_000},
		{12_000, 100_000, 1, 150_000},
		{1, 1_000_000, 0, 1},
		// It is rounded down.
		{1, 1_250_000, 0, 1},
		{1, 1_250_001, 0, 0},
		{1, 625_000, 0, 2},
		{1, 625_001, 0, 1},
		{7, 3, 0, 2_916_666},
		// A smoothed time of 0 counts as 1.
		{8, 0, 1, 10_000_000},
		{8, 1, 1, 10_000_000},
		{8, 2, 1, 5_000_000},
		{0, 0, 0, 0},
		{0, 0, 9, 9},
		// It is at least slowest.
		{6000, 50_000, 149_999, 150_000},
		{6000, 50_000, 150_000, 150_000},
		{6000, 50_000, 150_001, 150_001},
		{0, 5, 1000, 1000},
		{0, never, 1000, 1000},
		// It is at most MaxRate, and that takes precedence.
		{1 << 30, 1, 1, api.MaxRate},
		{1 << 32, 1_250_000, 1, api.MaxRate},
		{1<<32 + 1, 1_250_000, 1, api.MaxRate},
		{1<<32 - 1, 1_250_000, 1, api.MaxRate - 1},
		{5, 1 << 40, api.MaxRate - 1, api.MaxRate - 1},
		{5, 1 << 40, api.MaxRate, api.MaxRate},
		{5, 1 << 40, api.MaxRate + 1, api.MaxRate},
		{0, 0, top, api.MaxRate},
		{top, 0, top, api.MaxRate},
		// The product needs more than 64 bits here.
		{top, top, 0, 1_250_000},
		{top, top - 1, 0, 1_250_000},
		{top - 1, top, 0, 1_249_999},
		{1 << 63, top, 0, 625_000},
		{top, 0, 0, api.MaxRate},
		{top, 1, 0, api.MaxRate},
	} {
		if got := Rate(x.cwnd, x.smooth, x.slowest); got != x.want {
			t.Errorf("Rate(%d, %d, %d) is %d, want %d", x.cwnd, x.smooth, x.slowest, got, x.want)
		}
	}
}

// rated tells what Rate has to answer.
func rated(cwnd, smooth, slowest uint64) uint64 {
	if smooth == 0 {
		smooth = 1
	}
	rate := capped(new(big.Int).Quo(times(large(cwnd), large(1_250_000)), large(smooth)))
	return slower(max(rate, slowest))
}

func TestP2401RateExact(t *testing.T) {
	random := rand.New(rand.NewSource(2401))
	for range 100_000 {
		for _, x := range [][3]uint64{
			{drawn(random), drawn(random), drawn(random)},
			{drawn(random), drawn(random), 0},
			{uint64(random.Intn(1 << 20)), uint64(random.Intn(1 << 20)), uint64(random.Intn(1 << 20))},
		} {
			if got, want := Rate(x[0], x[1], x[2]), rated(x[0], x[1], x[2]); got != want {
				t.Errorf("Rate(%d, %d, %d) is %d, want %d", x[0], x[1], x[2], got, want)
			}
		}
	}
}

func TestP2401Fill(t *testing.T) {
	for _, x := range []struct {
		p          api.Pace
		burst, now uint64
		tokens, at uint64
		what       string
	}{
		{api.Pace{Tokens: 5, At: 10, Rate: 3}, 1, 20, 35, 20, "tokens are added"},
		{api.Pace{Tokens: 5, At: 10, Rate: 0}, 1, 20, 5, 20, "none are added without a rate"},
		{api.Pace{Tokens: 5, At: 10, Rate: 3}, 1, 10, 5, 10, "none are added at the same time"},
		{api.Pace{Tokens: 5, At: 10, Rate: 3}, 1, 9, 5, 10, "none are added if the time goes back"},
		{api.Pace{Tokens: 5, At: 10, Rate: 3}, 1, 0, 5, 10, "none are added if the time goes back"},
		{api.Pace{Tokens: 5, At: top, Rate: 3}, 1, top - 1, 5, top, "none are added if the time goes back"},
		{api.Pace{Tokens: 999_969, At: 10, Rate: 3}, 1, 20, 999_999, 20, "less than full"},
		{api.Pace{Tokens: 999_970, At: 10, Rate: 3}, 1, 20, 1_000_000, 20, "just full"},
		{api.Pace{Tokens: 999_971, At: 10, Rate: 3}, 1, 20, 1_000_000, 20, "full at most"},
		{api.Pace{Tokens: 1_000_000, At: 10, Rate: 3}, 1, 20, 1_000_000, 20, "full at most"},
		{api.Pace{Tokens: 2_000_000, At: 10, Rate: 3}, 1, 20, 1_000_000, 20, "more than full"},
		{api.Pace{Tokens: 2_000_000, At: 10, Rate: 3}, 1, 10, 1_000_000, 10, "more than full at the same time"},
		{api.Pace{Tokens: 2_000_000, At: 10, Rate: 3}, 1, 7, 1_000_000, 10, "more than full if the time goes back"},
		{api.Pace{Tokens: 1_000_001, At: 10}, 1, 7, 1_000_000, 10, "more than full if the time goes back"},
		{api.Pace{Tokens: 5, At: 10, Rate: 3}, 0, 10, 0, 10, "nothing is in an empty bucket"},
		{api.Pace{Tokens: 5, At: 10, Rate: 3}, 0, 20, 0, 20, "nothing is in an empty bucket"},
		{api.Pace{Tokens: 5, Rate: top}, top, 1, top, 1, "the sum saturates"},
		{api.Pace{Tokens: 5, Rate: top}, top, 2, top, 2, "the product saturates"},
		{api.Pace{Tokens: 5, Rate: top}, top, top, top, top, "the product saturates"},
		{api.Pace{Tokens: 5, Rate: 1 << 32}, 1, 1 << 32, 1_000_000, 1 << 32, "the product saturates"},
		{api.Pace{Tokens: top - 30, At: 10, Rate: 3}, whole + 1, 19, top - 3, 19, "a full bucket saturates"},
		{api.Pace{Tokens: top - 30, At: 10, Rate: 3}, whole + 1, 21, top, 21, "a full bucket saturates"},
		{api.Pace{Tokens: top, At: 10, Rate: 3}, whole, 21, 18_446_744_073_709_000_000, 21, "a full bucket does not saturate"},
		{api.Pace{Tokens: 0, At: 10, Rate: api.MaxRate + 5}, whole, 12, 2*api.MaxRate + 10, 12, "only Start and Set bound the rate"},
	} {
		want := api.Pace{Tokens: x.tokens, At: x.at, Rate: x.p.Rate}
		if got := Fill(x.p, x.burst, x.now); got != want {
			t.Errorf("%s: Fill(%+v, %d, %d) is %+v, want %+v", x.what, x.p, x.burst, x.now, got, want)
		}
	}
}

func TestP2401Exact(t *testing.T) {
	for i, x := range some(24010, 50_000) {
		checkFill(t, x, filled(x))
		checkSet(t, x, x.size)
		checkSet(t, x, edges()[i%len(edges())])
	}
}

// What is added up to the time of Set comes at the old rate, what comes behind it at the new one.
func TestP2401Set(t *testing.T) {
	p := Start(10, 100, 3)
	p, _ = Take(p, 10, 100, 10)
	p = Set(p, 10, 150, 7)
	if want := (api.Pace{Tokens: 150, At: 150, Rate: 7}); p != want {
		t.Errorf("at the old rate: %+v, want %+v", p, want)
	}
	p = Fill(p, 10, 160)
	if want := (api.Pace{Tokens: 220, At: 160, Rate: 7}); p != want {
		t.Errorf("at the new rate: %+v, want %+v", p, want)
	}
	p = Set(p, 10, 120, 2)
	if want := (api.Pace{Tokens: 220, At: 160, Rate: 2}); p != want {
		t.Errorf("if the time goes back: %+v, want %+v", p, want)
	}
	for _, x := range []struct{ rate, want uint64 }{
		{0, 0},
		{api.MaxRate - 1, api.MaxRate - 1},
		{api.MaxRate, api.MaxRate},
		{api.MaxRate + 1, api.MaxRate},
		{1 << 63, api.MaxRate},
		{top, api.MaxRate},
	} {
		if got := Set(p, 10, 160, x.rate).Rate; got != x.want {
			t.Errorf("Set to the rate %d gives %d, want %d", x.rate, got, x.want)
		}
	}
}

// Filling at times in between, or back, makes no difference.
func TestP2401FillTwice(t *testing.T) {
	random := rand.New(rand.NewSource(24011))
	for _, x := range some(24012, 50_000) {
		between := min(x.now, drawn(random))
		p := Fill(Fill(x.p, x.burst, between), x.burst, x.now)
		if want := Fill(x.p, x.burst, x.now); p != want {
			t.Errorf("Fill of %+v at %d and %d is %+v, want %+v", x.p, between, x.now, p, want)
		}
		if back := Fill(p, x.burst, between); back != p {
			t.Errorf("Fill of %+v back at %d is %+v", p, between, back)
		}
	}
}

func TestP2402Example(t *testing.T) {
	p, ok := Take(Start(10, 0, 1), 10, 0, 10)
	if want := (api.Pace{Rate: 1}); !ok || p != want {
		t.Errorf("Take of 10 bytes from Start(10, 0, 1): %+v, %v", p, ok)
	}
	if got := Next(p, 10, 0, 1); got != 1_000_000 {
		t.Errorf("after that Next for 1 byte is %d", got)
	}
}

func TestP2402Take(t *testing.T) {
	for _, x := range []struct {
		p                api.Pace
		burst, now, size uint64
		tokens, at       uint64
		ok               bool
	}{
		{api.Pace{Tokens: 2_000_000, At: 10}, 2, 10, 1, 1_000_000, 10, true},
		{api.Pace{Tokens: 2_000_000, At: 10}, 2, 10, 2, 0, 10, true},
		{api.Pace{Tokens: 1_999_999, At: 10}, 2, 10, 2, 1_999_999, 10, false},
		{api.Pace{Tokens: 2_000_000, At: 10}, 2, 10, 3, 2_000_000, 10, false},
		// It fills first, up to the time of the call, also if it then refuses.
		{api.Pace{Tokens: 999_999, At: 10, Rate: 1}, 2, 10, 1, 999_999, 10, false},
		{api.Pace{Tokens: 999_999, At: 10, Rate: 1}, 2, 11, 1, 0, 11, true},
		{api.Pace{Tokens: 999_998, At: 10, Rate: 1}, 2, 11, 1, 999_999, 11, false},
		{api.Pace{Tokens: 5, At: 10, Rate: 3}, 2, 20, 1, 35, 20, false},
		{api.Pace{Tokens: 5, At: 10, Rate: 3}, 2, 9, 1, 5, 10, false},
		// What does not fit in the bucket is not there to be taken.
		{api.Pace{Tokens: 5_000_000, At: 10, Rate: 3}, 2, 10, 3, 2_000_000, 10, false},
		{api.Pace{Tokens: 5_000_000, At: 10, Rate: 3}, 2, 10, 1, 1_000_000, 10, true},
		{api.Pace{Tokens: 5_000_000, At: 10, Rate: 3}, 2, 4, 2, 0, 10, true},
		{api.Pace{At: 10, Rate: api.MaxRate}, 2, top, 3, 2_000_000, top, false},
		// No bytes are always granted.
		{api.Pace{At: 10}, 2, 5, 0, 0, 10, true},
		{api.Pace{Tokens: 5, At: 10}, 0, 15, 0, 0, 15, true},
		{api.Pace{Tokens: 5}, 0, 0, 1, 0, 0, false},
		// Tokens saturate.
		{api.Pace{Tokens: top}, top, 0, top, 0, 0, true},
		{api.Pace{Tokens: top}, whole + 1, 0, whole + 1, 0, 0, true},
		{api.Pace{Tokens: top}, whole + 1, 0, whole, 551_615, 0, true},
		{api.Pace{Tokens: top}, whole, 0, whole, 0, 0, true},
		{api.Pace{Tokens: top}, whole, 0, whole + 1, whole * 1_000_000, 0, false},
		{api.Pace{Tokens: top - 1}, top, 0, top, top - 1, 0, false},
	} {
		c := call{p: x.p, burst: x.burst, now: x.now, size: x.size}
		checkTake(t, c, api.Pace{Tokens: x.tokens, At: x.at, Rate: x.p.Rate}, x.ok)
	}
}

func TestP2402TakeExact(t *testing.T) {
	seen := map[bool]int{}
	for _, x := range some(24020, 50_000) {
		want, ok := taken(x)
		seen[ok]++
		checkTake(t, x, want, ok)
	}
	if seen[true] < 10_000 || seen[false] < 10_000 {
		t.Error("granted and refused:", seen)
	}
}

func TestP2402Next(t *testing.T) {
	for _, x := range []struct {
		p                      api.Pace
		burst, now, size, want uint64
	}{
		// It waits from At on, where the tokens were counted, not from now on.
		{api.Pace{At: 10, Rate: 1}, 2, 10, 1, 1_000_010},
		{api.Pace{At: 10, Rate: 1}, 2, 5, 1, 1_000_010},
		{api.Pace{At: 10, Rate: 1}, 2, 500_010, 1, 1_000_010},
		{api.Pace{At: 10, Rate: 1}, 2, 1_000_009, 1, 1_000_010},
		{api.Pace{At: 10, Rate: 1}, 2, 1_000_010, 1, 1_000_010},
		{api.Pace{At: 10, Rate: 1}, 2, 1_000_011, 1, 1_000_011},
		{api.Pace{At: 10, Rate: 1}, 2, 2_000_000, 1, 2_000_000},
		// A part of a microsecond is a whole one.
		{api.Pace{At: 10, Rate: 3}, 2, 10, 1, 333_344},
		{api.Pace{At: 10, Rate: 1_000_000}, 2, 10, 2, 12},
		{api.Pace{At: 10, Rate: 999_999}, 2, 10, 2, 13},
		{api.Pace{At: 10, Rate: 2_000_000}, 2, 10, 2, 11},
		{api.Pace{At: 10, Rate: api.MaxRate}, 2, 10, 1, 11},
		{api.Pace{Tokens: 1, At: 10, Rate: 999_999}, 2, 10, 1, 11},
		{api.Pace{Tokens: 999_999, At: 10, Rate: 1}, 2, 10, 1, 11},
		// Enough tokens are there at once, but not before At.
		{api.Pace{Tokens: 1_000_000, At: 10, Rate: 1}, 2, 5, 1, 10},
		{api.Pace{Tokens: 1_000_000, At: 10}, 2, 5, 1, 10},
		{api.Pace{Tokens: 1_000_000, At: 10}, 2, 20, 1, 20},
		{api.Pace{Tokens: 9_000_000, At: 10}, 2, 20, 2, 20},
		{api.Pace{At: 10}, 2, 20, 0, 20},
		{api.Pace{At: 10}, 2, 3, 0, 10},
		{api.Pace{At: 10, Rate: 1}, 0, 20, 0, 20},
		// It never comes: more than a bucket, no rate, or too late.
		{api.Pace{At: 10, Rate: 1}, 2, 10, 3, never},
		{api.Pace{Tokens: 9_000_000, At: 10, Rate: 1}, 2, 10, 3, never},
		{api.Pace{At: 10, Rate: top}, 0, 10, 1, never},
		{api.Pace{At: 10}, 2, 10, 1, never},
		{api.Pace{Tokens: 999_999, At: 10}, 2, 10, 1, never},
		{api.Pace{At: top - 5, Rate: 1}, 2, 0, 1, never},
		{api.Pace{At: top - 1_000_001, Rate: 1}, 2, 0, 1, top - 1},
		{api.Pace{At: top - 1_000_000, Rate: 1}, 2, 0, 1, never},
		{api.Pace{At: top - 999_999, Rate: 1}, 2, 0, 1, never},
		{api.Pace{Tokens: 1_000_000, At: top - 1}, 2, 0, 1, top - 1},
		{api.Pace{Tokens: 1_000_000, At: top}, 2, 0, 1, never},
		{api.Pace{Tokens: 1_000_000}, 2, top, 1, never},
		{api.Pace{}, 2, top, 0, never},
		// Tokens saturate.
		{api.Pace{Rate: 1}, top, 0, top, never},
		{api.Pace{Tokens: 2, Rate: 1}, top, 0, top, top - 2},
		{api.Pace{Tokens: 1, Rate: 1}, top, 0, top, top - 1},
		{api.Pace{Rate: 2}, whole + 1, 0, top, 1 << 63},
		{api.Pace{Rate: top}, top, 0, top, 1},
		{api.Pace{Rate: top}, whole, 0, whole + 1, never},
		{api.Pace{Rate: top}, whole, 0, whole, 1},
		{api.Pace{Tokens: top}, top, 0, top, 0},
	} {
		checkNext(t, call{p: x.p, burst: x.burst, now: x.now, size: x.size}, x.want)
	}
}

func TestP2402NextExact(t *testing.T) {
	seen := map[string]int{}
	for i, x := range some(24021, 20_000) {
		if i%8 < 4 {
			// Without this, most draws of sizes and rates never come.
			x.size = x.size % (x.burst/2 + 1)
			x.now %= 1 << 50
			x.p.At %= 1 << 50
		}
		want := earliest(x)
		switch want {
		case never:
			seen["never"]++
		case max(x.now, x.p.At):
			seen["at once"]++
		default:
			seen["later"]++
		}
		checkNext(t, x, want)
	}
	if seen["never"] < 5000 || seen["at once"] < 5000 || seen["later"] < 5000 {
		t.Error("not enough of each:", seen)
	}
}

// Each time is asked in turn, from now on, until Take grants.
func TestP2402NextInTurn(t *testing.T) {
	random := rand.New(rand.NewSource(24022))
	for range 2000 {
		burst := uint64(1 + random.Intn(5))
		x := call{burst: burst, size: uint64(random.Intn(int(burst) + 1)), now: uint64(random.Intn(40))}
		x.p = api.Pace{Tokens: uint64(random.Intn(6_000_000)), At: uint64(random.Intn(40)), Rate: uint64(100_000 + random.Intn(2_000_000))}
		want := max(x.now, x.p.At)
		// At the least rate, a microsecond adds a tenth of a byte.
		for last := want + 10*burst; want < last; want++ {
			if _, ok := Take(x.p, x.burst, want, x.size); ok {
				break
			}
		}
		checkNext(t, x, want)
	}
}

// send is bytes that were taken, and the greatest time so far.
type send struct{ at, size uint64 }

// bound tells the tokens of burst and those that rate adds within so many microseconds.
func bound(burst, rate, length uint64) *big.Int {
	return plus(times(large(burst), large(1_000_000)), times(large(rate), large(length)))
}

// holdIntervals checks that between any two of the sends, with both, no more was sent than burst and rate allow.
func holdIntervals(t *testing.T, l []send, burst, rate uint64) {
	t.Helper()
	for i := range l {
		sum := new(big.Int)
		for j := i; j < len(l); j++ {
			sum.Add(sum, times(large(l[j].size), large(1_000_000)))
			if sum.Cmp(bound(burst, rate, l[j].at-l[i].at)) > 0 {
				t.Fatalf("with burst %d and rate %d, %d millionths of a byte were sent from %d to %d", burst, rate, sum, l[i].at, l[j].at)
			}
		}
	}
}

// Whatever is asked, whenever, and however the rate changes, no interval holds more than burst and the greatest rate times its length.
func TestP2403NoIntervalHoldsMore(t *testing.T) {
	random := rand.New(rand.NewSource(2403))
	most := 0
	for range 300 {
		burst := uint64(random.Intn(5000))
		greatest := uint64(1 + random.Intn(1<<uint(1+random.Intn(31))))
		now := []uint64{0, 1 << 40, top - 200_000}[random.Intn(3)]
		p, latest := Start(burst, now, greatest), now
		var sends []send
		for range 300 {
			asked := now
			if random.Intn(4) == 0 {
				asked -= min(now, uint64(random.Intn(5000)))
			}
			latest = max(latest, asked)
			var ok bool
			size := uint64(random.Intn(int(burst)/(1+random.Intn(8)) + 2))
			if p, ok = Take(p, burst, asked, size); ok {
				sends = append(sends, send{latest, size})
			}
			if random.Intn(10) == 0 {
				p = Set(p, burst, asked, uint64(random.Int63n(int64(greatest)+1)))
			}
			if random.Intn(3) == 0 {
				now += min(uint64(random.Intn(2000)), top-now)
			}
		}
		holdIntervals(t, sends, burst, greatest)
		most = max(most, len(sends))
	}
	if most < 100 {
		t.Error("hardly anything was sent")
	}
}

// A state that Start did not make has no more than a full bucket to send either, and a rate that is too great counts as the greatest one.
func TestP2403AnyStart(t *testing.T) {
	random := rand.New(rand.NewSource(24030))
	for range 300 {
		burst := uint64(random.Intn(1 << 30))
		p := api.Pace{Tokens: drawn(random), At: uint64(random.Intn(1 << 30)), Rate: uint64(random.Int63n(1<<32 + 1))}
		if random.Intn(2) == 0 {
			p = Start(burst, p.At, near(random, api.MaxRate))
		}
		now, sends := p.At, []send(nil)
		for range 60 {
			size := uint64(random.Intn(int(burst)/4 + 2))
			var ok bool
			if p, ok = Take(p, burst, now, size); ok {
				sends = append(sends, send{now, size})
			}
			if random.Intn(8) == 0 {
				p = Set(p, burst, now, drawn(random))
			}
			if random.Intn(2) == 0 {
				now += uint64(random.Intn(100_000))
			}
		}
		holdIntervals(t, sends, burst, api.MaxRate)
	}
}

// Whoever sends again as soon as Next allows sends all that burst and rate allow, up to what one packet lacks.
func TestP2403AllIsSent(t *testing.T) {
	random := rand.New(rand.NewSource(24031))
	for range 500 {
		size := uint64(1 + random.Intn(1500))
		// A bucket with room for a packet and a microsecond's tokens never loses any.
		rate := uint64(1 + random.Intn(1_000_000))
		burst := size + 1 + uint64(random.Intn(10_000))
		start := uint64(random.Intn(1 << 30))
		p, now, sent := Start(burst, start, rate), start, uint64(0)
		for range 50 {
			now = Next(p, burst, now, size)
			var ok bool
			if p, ok = Take(p, burst, now, size); !ok {
				t.Fatalf("Take of %d bytes at %d is refused: %+v", size, now, p)
			}
			sent += size
		}
		left := new(big.Int).Sub(bound(burst, rate, now-start), times(large(sent), large(1_000_000)))
		if left.Cmp(large(p.Tokens)) != 0 {
			t.Fatalf("with burst %d and rate %d, %d bytes were sent in %d microseconds: %d tokens are left, not %d", burst, rate, sent, now-start, p.Tokens, left)
		}
	}
}
