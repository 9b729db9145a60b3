package trigger

import (
	"math/rand"
	"reflect"
	"slices"
	"testing"

	"splittally/api"
	"splittally/ledger"
)

// row tells the spans of pairs of numbers.
func row(l ...uint64) []api.Span {
	var spans []api.Span
	for i := 0; i+1 < len(l); i += 2 {
		spans = append(spans, api.Span{Lo: l[i], Hi: l[i+1]})
	}
	return spans
}

// singles tells n spans of one number each, from lo on.
func singles(n int, lo uint64) []api.Span {
	var spans []api.Span
	for i := range uint64(n) {
		spans = append(spans, api.Span{Lo: lo + 2*i, Hi: lo + 2*i})
	}
	return spans
}

// kind is what a number of a ledger has become.
type kind struct {
	state int
	used  bool
}

// kinds tells all that a number can become.
func kinds() []kind {
	return []kind{
		{api.Flying, false}, {api.Flying, true}, {api.Acked, false}, {api.Acked, true},
		{api.Lost, false}, {api.Lost, true}, {api.Skip, false},
	}
}

// add gives the next number to a packet with a nonce, or to none, and makes it what k tells.
func add(t *testing.T, l *ledger.Ledger, k kind, nonce uint64) uint64 {
	t.Helper()
	pn, e := l.Next(), api.OK
	if k.state == api.Skip {
		_, e = l.Skip()
	} else {
		_, e = l.Send(api.Sent{Off: pn, Len: 1, Nonce: nonce, At: 9, Coin: pn%2 == 0})
	}
	if k.used && !l.Use(pn) {
		t.Fatalf("%d cannot be used", pn)
	}
	if k.state == api.Acked || k.state == api.Lost {
		l.Settle(pn, k.state)
	}
	if s, ok := l.Get(pn); e != api.OK || !ok || s.State != k.state || s.Used != k.used {
		t.Fatalf("%d has not become %+v: %d, %+v", pn, k, e, s)
	}
	return pn
}

// made tells a ledger of a ring of 5 with lost packets that are not used, the numbers up to next, and nonces from 100 on.
func made(t *testing.T, next uint64) *ledger.Ledger {
	t.Helper()
	l := ledger.New(5, 99)
	for l.Next() < next {
		add(t, l, kind{api.Lost, false}, 100+l.Next())
	}
	return l
}

// set tells the numbers that a claims, of those less than next, in the plainest way.
func set(a api.Ack, next uint64) []uint64 {
	var l []uint64
	for pn := range next {
		if slices.ContainsFunc(a.Spans, func(s api.Span) bool { return s.Lo <= pn && pn <= s.Hi }) {
			l = append(l, pn)
		}
	}
	return l
}

// want tells what Look has to answer for a valid acknowledgment, number by number.
func want(l *ledger.Ledger, a api.Ack) (uint64, int) {
	claimed := set(a, l.Next())
	if len(claimed) > 0 && claimed[0] < l.Low() {
		return 0, api.WStale
	}
	for _, pn := range claimed {
		if s, ok := l.Get(pn); ok && s.State != api.Skip && !s.Used && s.Nonce == a.Trigger {
			return pn, api.Fine
		}
	}
	return 0, api.WTrigger
}

// looks holds Look against pn and why.
func looks(t *testing.T, l *ledger.Ledger, a api.Ack, pn uint64, why int) {
	t.Helper()
	if got, w := Look(l, a); got != pn || w != why {
		t.Errorf("Look of %+v: %d, %d; want %d, %d", a, got, w, pn, why)
	}
}

// bad tells acknowledgments that are not valid and have the trigger 102.
func bad() []api.Ack {
	return []api.Ack{
		{Trigger: 102},
		{Spans: []api.Span{}, Trigger: 102},
		{Marked: row(2, 2), Trigger: 102},
		{Spans: row(3, 2), Trigger: 102},
		{Spans: row(2, 2, 2, 2), Trigger: 102},
		{Spans: row(2, 2, 3, 3), Trigger: 102},
		{Spans: row(2, 5, 4, 8), Trigger: 102},
		{Spans: row(5, 5, 2, 2), Trigger: 102},
		{Spans: row(2, api.MaxPn+1), Trigger: 102},
		{Spans: row(2, api.Top), Trigger: 102},
		{Spans: row(2, 2, api.MaxPn+1, api.MaxPn+1), Trigger: 102},
		{Spans: row(2, 3), Marked: row(4, 4), Trigger: 102},
		{Spans: row(2, 3), Marked: row(1, 2), Trigger: 102},
		{Spans: row(2, 3), Marked: row(3, 2), Trigger: 102},
		{Spans: row(2, 3), Marked: row(2, 2, 3, 3), Trigger: 102},
		{Spans: row(2, 3), Marked: row(2, api.Top), Trigger: 102},
		{Spans: singles(api.MaxSpans+1, 2), Trigger: 102},
		{Spans: row(2, 200), Marked: singles(api.MaxSpans+1, 2), Trigger: 102},
		{Spans: singles(100, 2), Marked: singles(100, 2), Trigger: 102},
	}
}

// What is not valid is so before anything else: whether it would be stale or fine otherwise, or have no trigger.
func TestP1301Form(t *testing.T) {
	for _, next := range []uint64{0, 2, 3, 5, 8, 20} {
		l := made(t, next)
		for _, a := range bad() {
			looks(t, l, a, 0, api.WForm)
		}
	}
	looks(t, made(t, 3), api.Ack{}, 0, api.WForm)
}

func TestP1301NilLedger(t *testing.T) {
	for _, a := range append(bad(), api.Ack{}, api.Ack{Spans: row(0, 0)}, api.Ack{Spans: row(0, api.MaxPn), Trigger: 102}, api.Ack{Spans: row(2, 3), Marked: row(2, 2), Trigger: 102}) {
		looks(t, nil, a, 0, api.WForm)
	}
}

// The most spans that there can be are valid, and the trigger may stand behind the last one.
func TestP1301MostSpans(t *testing.T) {
	l := ledger.New(api.MaxRing, 999)
	for l.Next() < 100 {
		add(t, l, kind{api.Flying, false}, 100+l.Next())
	}
	for _, marked := range [][]api.Span{nil, {}, row(2, 2), singles(api.MaxSpans, 2)} {
		for i, s := range singles(api.MaxSpans, 2) {
			a := api.Ack{Spans: singles(api.MaxSpans, 2), Marked: marked, Trigger: 102 + 2*uint64(i)}
			looks(t, l, a, s.Lo, api.Fine)
			a.Trigger++
			looks(t, l, a, 0, api.WTrigger)
		}
	}
}

func TestP1301Stale(t *testing.T) {
	l := made(t, 8)
	if l.Low() != 3 {
		t.Fatal("low", l.Low())
	}
	for _, x := range []struct {
		spans   []api.Span
		trigger uint64
		pn      uint64
		why     int
	}{
		{row(0, 0), 100, 0, api.WStale},
		{row(2, 2), 102, 0, api.WStale},
		{row(2, 2), 0, 0, api.WStale},
		{row(0, 2), 104, 0, api.WStale},
		{row(2, 3), 103, 0, api.WStale},
		{row(2, 7), 107, 0, api.WStale},
		{row(0, 0, 5, 6), 105, 0, api.WStale},
		{row(0, api.MaxPn), 105, 0, api.WStale},
		{row(2, 2, api.MaxPn, api.MaxPn), 5, 0, api.WStale},
		{row(3, 3), 103, 3, api.Fine},
		{row(3, 7), 103, 3, api.Fine},
		{row(3, 7), 107, 7, api.Fine},
		{row(3, api.MaxPn), 105, 5, api.Fine},
		{row(3, 7), 102, 0, api.WTrigger},
		{row(4, 7), 103, 0, api.WTrigger},
	} {
		looks(t, l, api.Ack{Spans: x.spans, Trigger: x.trigger}, x.pn, x.why)
	}
	// As long as every number is kept, nothing is stale.
	for _, next := range []uint64{0, 1, 4, 5} {
		looks(t, made(t, next), api.Ack{Spans: row(0, 0), Trigger: 99}, 0, api.WTrigger)
	}
	looks(t, made(t, 6), api.Ack{Spans: row(0, 0), Trigger: 99}, 0, api.WStale)
}

// A number fires in every state but Skip, as long as it is not used.
func TestP1301Kinds(t *testing.T) {
	for _, k := range kinds() {
		for _, nonce := range []uint64{0, 1, 7, 1 << 63, api.Top} {
			l := made(t, 7)
			pn := add(t, l, k, nonce)
			fine := k.state != api.Skip && !k.used
			for _, spans := range [][]api.Span{row(pn, pn), row(pn-2, pn), row(pn, pn+9), row(pn-1, api.MaxPn), row(pn-3, pn-3, pn, pn, pn+2, pn+2)} {
				a := api.Ack{Spans: spans, Trigger: nonce}
				if fine {
					looks(t, l, a, pn, api.Fine)
				} else {
					looks(t, l, a, 0, api.WTrigger)
				}
				a.Trigger = nonce ^ 1<<40
				looks(t, l, a, 0, api.WTrigger)
			}
			for _, spans := range [][]api.Span{row(pn-1, pn-1), row(pn+1, pn+1), row(pn+1, api.MaxPn), row(pn-2, pn-1, pn+1, pn+1)} {
				looks(t, l, api.Ack{Spans: spans, Trigger: nonce}, 0, api.WTrigger)
			}
		}
	}
}

// A skipped number has the nonce 0, and so may a packet have.
func TestP1301SkippedNonce(t *testing.T) {
	l := ledger.New(6, 99)
	a := api.Ack{Spans: row(0, 5)}
	looks(t, l, a, 0, api.WTrigger)
	add(t, l, kind{api.Skip, false}, 0)
	looks(t, l, a, 0, api.WTrigger)
	add(t, l, kind{api.Flying, false}, 5)
	looks(t, l, a, 0, api.WTrigger)
	add(t, l, kind{api.Flying, false}, 0)
	looks(t, l, a, 2, api.Fine)
	looks(t, l, api.Ack{Spans: row(0, 1), Trigger: 0}, 0, api.WTrigger)
}

// Neither the proofs nor the marks have a say, nor numbers that were not sent.
func TestP1301Rest(t *testing.T) {
	l := made(t, 5)
	for _, xor := range []uint64{0, 1, 102, api.Top} {
		for _, parity := range []bool{false, true} {
			for _, marked := range [][]api.Span{nil, row(2, 2), row(1, 4), row(50, 60)} {
				a := api.Ack{Spans: row(1, 90), Marked: marked, Trigger: 102, Xor: xor, Parity: parity}
				looks(t, l, a, 2, api.Fine)
				a.Trigger = 105
				looks(t, l, a, 0, api.WTrigger)
			}
		}
	}
}

// Equal nonces fire one behind the other, and a number that is 0 is told from none by the reason.
func TestP1301Least(t *testing.T) {
	l := ledger.New(8, 99)
	for range 6 {
		add(t, l, kind{api.Flying, false}, 7)
	}
	looks(t, l, api.Ack{Spans: row(3, 5), Trigger: 7}, 3, api.Fine)
	looks(t, l, api.Ack{Spans: row(1, 1, 3, 5), Trigger: 7}, 1, api.Fine)
	a := api.Ack{Spans: row(0, 0, 2, 5), Trigger: 7}
	for _, pn := range []uint64{0, 2, 3, 4, 5} {
		looks(t, l, a, pn, api.Fine)
		if !l.Use(pn) {
			t.Fatal("use", pn)
		}
	}
	looks(t, l, a, 0, api.WTrigger)
	looks(t, l, api.Ack{Spans: row(0, 5), Trigger: 7}, 1, api.Fine)
}

// The order of numbers is not that of the places in the ring, where later numbers stand in front of earlier ones.
func TestP1301LeastBehindTheRing(t *testing.T) {
	for next := range uint64(20) {
		l := ledger.New(5, 99)
		for range next + 5 {
			add(t, l, kind{api.Lost, false}, 7)
		}
		looks(t, l, api.Ack{Spans: row(l.Low(), l.Next()-1), Trigger: 7}, l.Low(), api.Fine)
		looks(t, l, api.Ack{Spans: row(l.Low()+1, api.MaxPn), Trigger: 7}, l.Low()+1, api.Fine)
	}
}

// All ledgers of four numbers of every kind with one of two nonces each, against every set of five numbers as a claim.
func TestP1301Exact(t *testing.T) {
	const numbers = 4
	all := kinds()
	total := 1
	for range numbers {
		total *= len(all)
	}
	for code := range total {
		for nonces := range 1 << numbers {
			l := ledger.New(numbers, 99)
			rest := code
			for i := range numbers {
				add(t, l, all[rest%len(all)], uint64(nonces>>i&1))
				rest /= len(all)
			}
			for claim := 1; claim < 1<<(numbers+1); claim++ {
				for trigger := range uint64(2) {
					a := api.Ack{Spans: spansOf(claim), Trigger: trigger}
					pn, why := want(l, a)
					if got, w := Look(l, a); got != pn || w != why {
						t.Fatalf("Look of %+v with %+v: %d, %d; want %d, %d", a, l.All(), got, w, pn, why)
					}
				}
			}
		}
	}
}

// spansOf tells the row of the numbers whose bits are in claim.
func spansOf(claim int) []api.Span {
	var l []api.Span
	for pn := uint64(0); claim>>pn > 0; pn++ {
		switch {
		case claim>>pn&1 == 0:
		case len(l) > 0 && l[len(l)-1].Hi+1 == pn:
			l[len(l)-1].Hi = pn
		default:
			l = append(l, api.Span{Lo: pn, Hi: pn})
		}
	}
	return l
}

// drawn tells a ledger of some ring, as it has become by some calls, with few nonces.
func drawn(t *testing.T, r *rand.Rand) *ledger.Ledger {
	t.Helper()
	l := ledger.New(4+r.Intn(20), 99)
	all := kinds()
	for range r.Intn(40) {
		if l.Room() == 0 {
			l.Settle(l.Least(), api.Lost)
		}
		add(t, l, all[r.Intn(len(all))], uint64(r.Intn(6)))
	}
	return l
}

func TestP1301Drawn(t *testing.T) {
	r := rand.New(rand.NewSource(13))
	seen := map[int]int{}
	for range 500 {
		l := drawn(t, r)
		for range 100 {
			low := l.Low()
			if r.Intn(4) == 0 {
				low = 0
			}
			lo := low + uint64(r.Intn(12))
			mid := lo + uint64(r.Intn(5))
			a := api.Ack{Spans: row(lo, mid, mid+2, mid+2+uint64(r.Intn(5))), Trigger: uint64(r.Intn(6))}
			pn, why := want(l, a)
			looks(t, l, a, pn, why)
			seen[why]++
		}
	}
	for _, why := range []int{api.Fine, api.WStale, api.WTrigger} {
		if seen[why] < 1000 {
			t.Errorf("reason %d came up %d times only", why, seen[why])
		}
	}
}

// At the end of the numbers, nothing wraps around.
func TestP1301GreatestNumbers(t *testing.T) {
	l := made(t, 8)
	looks(t, l, api.Ack{Spans: row(api.MaxPn, api.MaxPn), Trigger: 104}, 0, api.WTrigger)
	looks(t, l, api.Ack{Spans: row(4, 4, api.MaxPn, api.MaxPn), Trigger: 104}, 4, api.Fine)
	looks(t, l, api.Ack{Spans: row(4, api.MaxPn), Trigger: 107}, 7, api.Fine)
	looks(t, l, api.Ack{Spans: row(8, api.MaxPn), Trigger: 107}, 0, api.WTrigger)
}

// A full ledger of the longest ring is looked through to its end.
func TestP1301LongestRing(t *testing.T) {
	l := ledger.New(api.MaxRing, 9999)
	for range 3 * api.MaxRing / 2 {
		add(t, l, kind{api.Acked, false}, 1000+l.Next())
	}
	for pn := l.Low(); pn < l.Next(); pn++ {
		looks(t, l, api.Ack{Spans: row(l.Low(), l.Next()), Trigger: 1000 + pn}, pn, api.Fine)
		looks(t, l, api.Ack{Spans: row(pn, pn), Trigger: 1000 + pn}, pn, api.Fine)
	}
}

// For every reason, the ledger and the acknowledgment, the spare capacity of its spans too, are as they were, and a second look says the same.
func TestP1301ChangesNothing(t *testing.T) {
	l := made(t, 8)
	l.Use(4)
	spare := func(spans []api.Span) []api.Span { return append(spans, row(31, 32, 41, 42)...)[:len(spans)] }
	for _, a := range []api.Ack{
		{Spans: row(5, 4), Trigger: 105},
		{Spans: row(0, 0, 5, 5), Marked: row(5, 5), Trigger: 105},
		{Spans: row(3, 4, 6, 9), Marked: row(3, 3, 7, 7), Trigger: 105},
		{Spans: row(3, 3, 5, 5, 7, 9), Marked: row(3, 3, 7, 7), Trigger: 105},
	} {
		was := l.Fork()
		given := api.Ack{Spans: spare(a.Spans), Marked: spare(a.Marked), Trigger: a.Trigger}
		spans, marked := slices.Clone(given.Spans[:len(a.Spans)+2]), slices.Clone(given.Marked[:len(a.Marked)+2])
		pn, why := Look(l, given)
		looks(t, l, given, pn, why)
		if !reflect.DeepEqual(l, was) {
			t.Errorf("Look of %+v changed the ledger", a)
		}
		if !slices.Equal(given.Spans[:len(spans)], spans) || !slices.Equal(given.Marked[:len(marked)], marked) {
			t.Errorf("Look of %+v changed its argument", a)
		}
	}
}

// Of all nonces that there can be, exactly those fire that packets of the claim have which are not used: whoever knows none of them has no more than as many chances.
func TestP1302OnlyUnusedNonces(t *testing.T) {
	const bits = 6
	r := rand.New(rand.NewSource(1302))
	for range 200 {
		l := ledger.New(12, 99)
		all := kinds()
		for range 12 {
			add(t, l, all[r.Intn(len(all))], uint64(r.Intn(1<<bits)))
		}
		for _, spans := range [][]api.Span{row(0, 11), row(0, api.MaxPn), row(3, 8), row(0, 0, 4, 4, 9, 20), row(12, 30)} {
			secret := map[uint64]bool{}
			for _, pn := range set(api.Ack{Spans: spans}, l.Next()) {
				if s, _ := l.Get(pn); s.State != api.Skip && !s.Used {
					secret[s.Nonce] = true
				}
			}
			for trigger := range uint64(1 << bits) {
				_, why := Look(l, api.Ack{Spans: spans, Trigger: trigger})
				if (why == api.Fine) != secret[trigger] {
					t.Fatalf("trigger %d of the claim %v: %d; unused nonces %v", trigger, spans, why, secret)
				}
			}
		}
	}
}

// A nonce that was used once fires no more, whatever is claimed and sent later, and whatever becomes of its packet.
func TestP1302Once(t *testing.T) {
	l := ledger.New(8, 99)
	for n := range uint64(5) {
		add(t, l, kind{api.Flying, false}, 100+n)
	}
	a := api.Ack{Spans: row(0, 4), Trigger: 102}
	looks(t, l, a, 2, api.Fine)
	l.Use(2)
	looks(t, l, a, 0, api.WTrigger)
	for _, state := range []int{api.Lost, api.Acked} {
		l.Settle(2, state)
		looks(t, l, a, 0, api.WTrigger)
	}
	for l.Room() > 0 {
		add(t, l, kind{api.Flying, false}, 200+l.Next())
		for _, spans := range [][]api.Span{row(2, 2), row(0, 4), row(0, api.MaxPn), row(2, 2, 5, 7)} {
			looks(t, l, api.Ack{Spans: spans, Trigger: 102}, 0, api.WTrigger)
		}
	}
}

// A nonce that is no longer kept fires no more, though it was never used.
func TestP1302Forgotten(t *testing.T) {
	l := made(t, 5)
	looks(t, l, api.Ack{Spans: row(0, 4), Trigger: 100}, 0, api.Fine)
	add(t, l, kind{api.Lost, false}, 105)
	looks(t, l, api.Ack{Spans: row(0, 4), Trigger: 100}, 0, api.WStale)
	looks(t, l, api.Ack{Spans: row(0, 0), Trigger: 100}, 0, api.WStale)
	looks(t, l, api.Ack{Spans: row(1, 5), Trigger: 100}, 0, api.WTrigger)
}
