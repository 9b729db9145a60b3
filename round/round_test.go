package round

import (
	"math/big"
	"math/rand"
	"testing"

	"splittally/api"
)

// numbers tells numbers at both ends of their range and at powers of two.
func numbers() []uint64 {
	return []uint64{0, 1, 2, 3, 4, 8, 9, 10, 20, 1<<31 - 1, 1 << 31, 1<<32 - 1, 1 << 32, api.MaxPn - 1, api.MaxPn, api.MaxPn + 1,
		1<<63 - 1, 1 << 63, 1<<63 + 1, api.Top - 3, api.Top - 2, api.Top - 1, api.Top}
}

func large(x uint64) *big.Int { return new(big.Int).SetUint64(x) }

// behind tells the number behind x, of an exact sum, but at most Top.
func behind(x uint64) uint64 {
	sum := new(big.Int).Add(large(x), big.NewInt(1))
	if sum.Cmp(large(api.Top)) > 0 {
		return api.Top
	}
	return sum.Uint64()
}

// want tells what Begin has to answer, word by word of the promise.
func want(r api.Round, pn, next uint64) (api.Round, bool) {
	if large(pn).Cmp(large(r.End)) < 0 {
		return r, false
	}
	end := next
	if large(next).Cmp(large(pn)) <= 0 {
		end = behind(pn)
	}
	return api.Round{End: end, Cuts: behind(r.Cuts)}, true
}

// hold checks Fresh and Begin of the same packet, and tells what Begin returned.
func hold(t *testing.T, r api.Round, pn, next uint64) (api.Round, bool) {
	t.Helper()
	round, ok := want(r, pn, next)
	if got := Fresh(r, pn); got != ok {
		t.Fatalf("Fresh(%+v, %d) = %v", r, pn, got)
	}
	got, did := Begin(r, pn, next)
	if got != round || did != ok {
		t.Fatalf("Begin(%+v, %d, %d) = %+v, %v, not %+v, %v", r, pn, next, got, did, round, ok)
	}
	return got, did
}

func TestP2001FreshExamples(t *testing.T) {
	for _, x := range []struct {
		r    api.Round
		pn   uint64
		want bool
	}{
		{api.Round{}, 0, true},
		{api.Round{}, 3, true},
		{api.Round{}, api.Top, true},
		{api.Round{End: 9, Cuts: 1}, 0, false},
		{api.Round{End: 9, Cuts: 1}, 8, false},
		{api.Round{End: 9, Cuts: 1}, 9, true},
		{api.Round{End: 9, Cuts: 1}, 10, true},
		// Cuts tells nothing about packets.
		{api.Round{End: 9, Cuts: api.Top}, 8, false},
		{api.Round{End: 9, Cuts: 0}, 8, false},
		{api.Round{Cuts: api.Top}, 0, true},
		{api.Round{End: 1 << 63}, 1<<63 - 1, false},
		{api.Round{End: 1 << 63}, 1 << 63, true},
		{api.Round{End: 1<<63 - 1}, 1 << 63, true},
		{api.Round{End: api.Top}, api.Top - 1, false},
		{api.Round{End: api.Top}, api.Top, true},
		{api.Round{End: api.Top}, 0, false},
		{api.Round{End: 1}, api.Top, true},
	} {
		if got := Fresh(x.r, x.pn); got != x.want {
			t.Errorf("Fresh(%+v, %d) = %v", x.r, x.pn, got)
		}
	}
}

func TestP2001BeginExamples(t *testing.T) {
	for _, x := range []struct {
		r        api.Round
		pn, next uint64
		want     api.Round
		ok       bool
	}{
		{api.Round{}, 3, 9, api.Round{End: 9, Cuts: 1}, true},
		{api.Round{End: 9, Cuts: 1}, 8, 20, api.Round{End: 9, Cuts: 1}, false},
		{api.Round{End: 9, Cuts: 1}, 9, 20, api.Round{End: 20, Cuts: 2}, true},
		{api.Round{}, 0, 0, api.Round{End: 1, Cuts: 1}, true},
		{api.Round{}, 0, 1, api.Round{End: 1, Cuts: 1}, true},
		{api.Round{}, 0, 2, api.Round{End: 2, Cuts: 1}, true},
		// The next number is not beyond the packet's.
		{api.Round{}, 3, 4, api.Round{End: 4, Cuts: 1}, true},
		{api.Round{}, 3, 3, api.Round{End: 4, Cuts: 1}, true},
		{api.Round{}, 3, 2, api.Round{End: 4, Cuts: 1}, true},
		{api.Round{End: 9, Cuts: 5}, 20, 3, api.Round{End: 21, Cuts: 6}, true},
		// The packet is as great as can be.
		{api.Round{}, api.Top, 0, api.Round{End: api.Top, Cuts: 1}, true},
		{api.Round{}, api.Top, api.Top, api.Round{End: api.Top, Cuts: 1}, true},
		{api.Round{}, api.Top - 1, 0, api.Round{End: api.Top, Cuts: 1}, true},
		{api.Round{}, api.Top - 1, api.Top, api.Round{End: api.Top, Cuts: 1}, true},
		{api.Round{}, api.Top - 2, 0, api.Round{End: api.Top - 1, Cuts: 1}, true},
		{api.Round{}, 0, api.Top, api.Round{End: api.Top, Cuts: 1}, true},
		{api.Round{End: api.Top, Cuts: 4}, api.Top, 7, api.Round{End: api.Top, Cuts: 5}, true},
		{api.Round{End: api.Top, Cuts: 4}, api.Top - 1, api.Top, api.Round{End: api.Top, Cuts: 4}, false},
		// There are as many cuts as can be.
		{api.Round{Cuts: api.Top}, 5, 9, api.Round{End: 9, Cuts: api.Top}, true},
		{api.Round{Cuts: api.Top - 1}, 5, 9, api.Round{End: 9, Cuts: api.Top}, true},
		{api.Round{Cuts: api.Top - 2}, 5, 9, api.Round{End: 9, Cuts: api.Top - 1}, true},
		{api.Round{End: 6, Cuts: api.Top}, 5, 9, api.Round{End: 6, Cuts: api.Top}, false},
		{api.Round{End: 6, Cuts: 0}, 5, 9, api.Round{End: 6, Cuts: 0}, false},
	} {
		got, ok := Begin(x.r, x.pn, x.next)
		if got != x.want || ok != x.ok {
			t.Errorf("Begin(%+v, %d, %d) = %+v, %v, not %+v, %v", x.r, x.pn, x.next, got, ok, x.want, x.ok)
		}
	}
}

func TestP2001AllEdges(t *testing.T) {
	for _, end := range numbers() {
		for _, cuts := range numbers() {
			for _, pn := range numbers() {
				for _, next := range numbers() {
					hold(t, api.Round{End: end, Cuts: cuts}, pn, next)
				}
			}
		}
	}
}

func TestP2001AllSmall(t *testing.T) {
	const most = 12
	for end := range uint64(most) {
		for pn := range uint64(most) {
			for next := range uint64(most) {
				hold(t, api.Round{End: end, Cuts: pn ^ next}, pn, next)
				hold(t, api.Round{End: api.Top - end, Cuts: api.Top - next}, api.Top-pn, api.Top-next)
			}
		}
	}
}

// drawn tells a number of any length in bits.
func drawn(random *rand.Rand) uint64 { return random.Uint64() >> random.Intn(65) }

func TestP2001Draws(t *testing.T) {
	random := rand.New(rand.NewSource(20))
	for range 200000 {
		r := api.Round{End: drawn(random), Cuts: drawn(random)}
		pn := drawn(random)
		hold(t, r, pn, drawn(random))
		hold(t, r, r.End+uint64(random.Intn(5))-2, drawn(random))
		hold(t, r, pn, pn+uint64(random.Intn(5))-2)
	}
}

func TestP2001SameAgain(t *testing.T) {
	r := api.Round{End: 9, Cuts: 1}
	first, _ := Begin(r, 9, 20)
	Begin(first, 30, 40)
	if again, _ := Begin(r, 9, 20); again != first || r != (api.Round{End: 9, Cuts: 1}) {
		t.Errorf("Begin depends on earlier calls: %+v, then %+v", first, again)
	}
}

// TestP2002SecondCauseSentLater sends packets and lets any that were sent cause reductions, in any order and again.
func TestP2002SecondCauseSentLater(t *testing.T) {
	random := rand.New(rand.NewSource(2002))
	for range 300 {
		var r api.Round
		var next, sentAhead, cuts uint64
		for range 300 {
			next += uint64(random.Intn(4))
			if next == 0 {
				continue
			}
			pn := uint64(random.Int63n(int64(next)))
			got, ok := hold(t, r, pn, next)
			// sentAhead counts the packets that were sent ahead of the last reduction.
			if ok != (pn >= sentAhead) {
				t.Fatalf("packet %d, reduction after %d packets: %v", pn, sentAhead, ok)
			}
			if ok {
				sentAhead = next
				cuts++
			}
			if got.Cuts != cuts || got.End != sentAhead {
				t.Fatalf("%+v after %d reductions, the last one after %d packets", got, cuts, sentAhead)
			}
			r = got
		}
	}
}

// TestP2002AnyNext holds the purpose for any next: no packet up to the one that caused a reduction causes the next one.
func TestP2002AnyNext(t *testing.T) {
	for _, pn := range numbers() {
		for _, next := range numbers() {
			r, ok := Begin(api.Round{}, pn, next)
			if !ok {
				t.Fatalf("the packet %d is not fresh at the beginning", pn)
			}
			for _, second := range numbers() {
				// Beyond Top there is no number to end a round with.
				if pn == api.Top && second == api.Top {
					continue
				}
				if _, again := Begin(r, second, next); again && (second <= pn || second < next) {
					t.Errorf("after %d with next %d, the packet %d causes a reduction", pn, next, second)
				}
			}
		}
	}
}

func TestP2002OnePerRoundTrip(t *testing.T) {
	// Ten packets fly at any time, and each of them is lost: there is one reduction for each ten.
	var r api.Round
	for pn := range uint64(1000) {
		r, _ = Begin(r, pn, pn+10)
	}
	if r != (api.Round{End: 1000, Cuts: 100}) {
		t.Errorf("after 1000 losses with ten packets flying: %+v", r)
	}
}
