package proof

import (
	"math/rand"
	"reflect"
	"slices"
	"testing"

	"splittally/api"
	"splittally/ledger"
)

// row tells the spans of pairs of numbers.
func row(l ...uint64) []api.Span {
	var spans []api.Span
	for i := 0; i+1 < len(l); i += 2 {
		spans = append(spans, api.Span{Lo: l[i], Hi: l[i+1]})
	}
	return spans
}

// singles tells n spans of one number each, from lo on.
func singles(n int, lo uint64) []api.Span {
	var spans []api.Span
	for i := range uint64(n) {
		spans = append(spans, api.Span{Lo: lo + 2*i, Hi: lo + 2*i})
	}
	return spans
}

// spansOf tells the row of the numbers whose bits are in set.
func spansOf(set int) []api.Span {
	var l []api.Span
	for pn := uint64(0); set>>pn > 0; pn++ {
		switch {
		case set>>pn&1 == 0:
		case len(l) > 0 && l[len(l)-1].Hi+1 == pn:
			l[len(l)-1].Hi = pn
		default:
			l = append(l, api.Span{Lo: pn, Hi: pn})
		}
	}
	return l
}

// in reports whether pn is in one of the spans.
func in(spans []api.Span, pn uint64) bool {
	return slices.ContainsFunc(spans, func(s api.Span) bool { return s.Lo <= pn && pn <= s.Hi })
}

// send gives the next number to a packet; for its sake, the least number may be lost and forgotten.
func send(t *testing.T, l *ledger.Ledger, nonce uint64, coin bool) uint64 {
	t.Helper()
	room(l)
	pn, e := l.Send(api.Sent{Off: 7, Len: 1, Nonce: nonce, At: 9, Coin: coin})
	if e != api.OK {
		t.Fatal("send", e)
	}
	return pn
}

// skip gives the next number to no packet.
func skip(t *testing.T, l *ledger.Ledger) uint64 {
	t.Helper()
	room(l)
	pn, e := l.Skip()
	if e != api.OK {
		t.Fatal("skip", e)
	}
	return pn
}

// room makes room for a number.
func room(l *ledger.Ledger) {
	if l.Room() == 0 {
		l.Settle(l.Least(), api.Lost)
	}
}

// made tells a ledger of a ring of 6 with the numbers up to next, of which those in skips are skipped; the others have nonces from 100 on, and every third one, from 1 on, has a coin that is true.
func made(t *testing.T, next uint64, skips ...uint64) *ledger.Ledger {
	t.Helper()
	l := ledger.New(6, 999)
	for pn := range next {
		if slices.Contains(skips, pn) {
			skip(t, l)
		} else {
			send(t, l, 100+pn, pn%3 == 1)
		}
	}
	return l
}

// wantSum tells what Sum has to answer for two rows, of which the first claims numbers below 100 only, number by number.
func wantSum(l *ledger.Ledger, claimed, marked []api.Span) (uint64, bool, bool) {
	xor, trues := uint64(0), 0
	for pn := range uint64(100) {
		if !in(claimed, pn) {
			continue
		}
		s, ok := l.Get(pn)
		if !ok || s.State == api.Skip {
			return 0, false, false
		}
		xor ^= s.Nonce
		if s.Coin && !in(marked, pn) {
			trues++
		}
	}
	return xor, trues%2 == 1, true
}

// wantCheck tells what Check has to answer for a valid acknowledgment that claims numbers below 100 only.
func wantCheck(l *ledger.Ledger, a api.Ack) (int, uint64) {
	var claims []uint64
	for pn := range uint64(100) {
		if in(a.Spans, pn) {
			claims = append(claims, pn)
		}
	}
	if claims[0] < l.Low() {
		return api.WStale, 0
	}
	for _, pn := range claims {
		if pn >= l.Next() {
			return api.WAhead, pn
		}
	}
	for _, pn := range claims {
		if s, _ := l.Get(pn); s.State == api.Skip {
			return api.WSkip, pn
		}
	}
	xor, parity, _ := wantSum(l, a.Spans, a.Marked)
	if a.Xor != xor {
		return api.WXor, 0
	}
	if a.Parity != parity {
		return api.WParity, 0
	}
	return api.Fine, 0
}

// sums holds Sum against what it has to answer.
func sums(t *testing.T, l *ledger.Ledger, claimed, marked []api.Span, xor uint64, parity, ok bool) {
	t.Helper()
	if x, p, o := Sum(l, claimed, marked); x != xor || p != parity || o != ok {
		t.Errorf("Sum of %v, %v: %d, %v, %v; want %d, %v, %v", claimed, marked, x, p, o, xor, parity, ok)
	}
}

// checks holds Check against why and pn.
func checks(t *testing.T, l *ledger.Ledger, a api.Ack, why int, pn uint64) {
	t.Helper()
	if w, n := Check(l, a); w != why || n != pn {
		t.Errorf("Check of %+v: %d, %d; want %d, %d", a, w, n, why, pn)
	}
}

// notRows tells what is not a row; the numbers of most of them are kept by made(t, 8).
func notRows() [][]api.Span {
	return [][]api.Span{
		row(4, 3),
		row(3, 3, 3, 3),
		row(3, 4, 5, 6),
		row(3, 5, 4, 7),
		row(6, 6, 3, 3),
		row(3, 3, 6, 5),
		row(5, 4, 6, 6),
		row(3, api.MaxPn+1),
		row(3, 3, 5, api.Top),
		row(api.Top, api.Top),
		row(api.Top, 0),
		row(0, 0, api.Top, api.Top),
	}
}

func TestP1401Table(t *testing.T) {
	// The numbers 2 to 7 are kept; 4 and 7 have coins that are true.
	l := made(t, 8)
	if l.Low() != 2 || l.Next() != 8 {
		t.Fatal("the ledger keeps", l.Low(), l.Next())
	}
	for _, x := range []struct {
		claimed, marked []api.Span
		xor             uint64
		parity          bool
	}{
		{row(2, 2), nil, 102, false},
		{row(4, 4), nil, 104, true},
		{row(7, 7), nil, 107, true},
		{row(2, 4), nil, 102 ^ 103 ^ 104, true},
		{row(3, 7), nil, 103 ^ 104 ^ 105 ^ 106 ^ 107, false},
		{row(2, 7), nil, 102 ^ 103 ^ 104 ^ 105 ^ 106 ^ 107, false},
		{row(2, 2, 4, 4, 6, 6), nil, 102 ^ 104 ^ 106, true},
		{row(2, 3, 6, 7), nil, 102 ^ 103 ^ 106 ^ 107, true},
		{row(2, 7), row(4, 4), 102 ^ 103 ^ 104 ^ 105 ^ 106 ^ 107, true},
		{row(2, 7), row(7, 7), 102 ^ 103 ^ 104 ^ 105 ^ 106 ^ 107, true},
		{row(2, 7), row(4, 4, 7, 7), 102 ^ 103 ^ 104 ^ 105 ^ 106 ^ 107, false},
		{row(2, 7), row(2, 3, 5, 6), 102 ^ 103 ^ 104 ^ 105 ^ 106 ^ 107, false},
		{row(2, 7), row(2, 7), 102 ^ 103 ^ 104 ^ 105 ^ 106 ^ 107, false},
		{row(4, 4), row(4, 4), 104, false},
		{row(4, 5), row(3, 4), 104 ^ 105, false},
	} {
		sums(t, l, x.claimed, x.marked, x.xor, x.parity, true)
	}
}

func TestP1401NoClaims(t *testing.T) {
	for _, next := range []uint64{0, 1, 6, 7, 20} {
		for _, claimed := range [][]api.Span{nil, {}} {
			for _, marked := range [][]api.Span{nil, {}, row(0, 0), row(1, 3, 5, 9), row(0, api.MaxPn)} {
				sums(t, made(t, next, 4), claimed, marked, 0, false, true)
			}
		}
	}
}

func TestP1401NilLedger(t *testing.T) {
	for _, spans := range append(notRows(), nil, row(0, 0), row(3, 5), row(0, api.MaxPn)) {
		sums(t, nil, nil, spans, 0, false, false)
		sums(t, nil, spans, nil, 0, false, false)
		sums(t, nil, spans, spans, 0, false, false)
	}
}

func TestP1401NotRows(t *testing.T) {
	for _, l := range []*ledger.Ledger{made(t, 0), made(t, 1), made(t, 8), made(t, 8, 4), ledger.New(6, 9)} {
		for _, bad := range notRows() {
			for _, good := range [][]api.Span{nil, {}, row(4, 4), row(2, 7)} {
				sums(t, l, bad, good, 0, false, false)
				sums(t, l, good, bad, 0, false, false)
			}
			sums(t, l, bad, bad, 0, false, false)
		}
	}
}

// A number that is no longer kept, not yet assigned or skipped spoils the sum wherever it is claimed, and nowhere if it is marked.
func TestP1401NotThere(t *testing.T) {
	// The numbers 2 to 7 are kept.
	l := made(t, 8, 5)
	for _, spans := range [][]api.Span{
		row(0, 0), row(1, 1), row(1, 2), row(0, 4), row(1, 1, 3, 4),
		row(5, 5), row(4, 5), row(5, 6), row(2, 7), row(2, 3, 5, 5, 7, 7),
		row(8, 8), row(7, 8), row(6, 9), row(2, 3, 8, 8), row(4, 4, 6, 7, 9, 20),
		row(2, 2, api.MaxPn, api.MaxPn), row(api.MaxPn, api.MaxPn), row(6, api.MaxPn), row(2, api.MaxPn), row(0, api.MaxPn), row(8, api.MaxPn),
	} {
		sums(t, l, spans, nil, 0, false, false)
		sums(t, l, spans, spans, 0, false, false)
		if !in(spans, 4) {
			sums(t, l, row(2, 4, 6, 6), spans, 102^103^104^106, true, true)
		}
	}
	for _, spans := range [][]api.Span{row(2, 2), row(2, 4), row(6, 6), row(6, 7), row(2, 4, 6, 7)} {
		xor, parity, _ := wantSum(l, spans, nil)
		sums(t, l, spans, nil, xor, parity, true)
	}
	for _, pn := range []uint64{0, 1, 5, 6, api.MaxPn} {
		sums(t, made(t, 0), row(pn, pn), nil, 0, false, false)
	}
}

// Marks of numbers that are long forgotten do not get into the way of those that are kept, and marks that reach across are good for what is kept.
func TestP1401MarksBehind(t *testing.T) {
	// The numbers 14 to 19 are kept; 16 and 19 have coins that are true.
	l := made(t, 20)
	xor := uint64(114 ^ 115 ^ 116 ^ 117 ^ 118 ^ 119)
	for _, x := range []struct {
		marked []api.Span
		parity bool
	}{
		{singles(7, 0), false},
		{append(singles(7, 0), row(16, 16)...), true},
		{append(singles(7, 0), row(14, 14, 16, 16, 18, 30, 40, 50)...), false},
		{append(singles(6, 0), row(13, 14, 17, 19)...), true},
		{append(singles(6, 1), row(14, 16)...), true},
		{row(3, 16, 18, 18), true},
		{row(3, 25), false},
	} {
		sums(t, l, row(14, 19), x.marked, xor, x.parity, true)
	}
}

// A number counts whatever has become of its packet.
func TestP1401States(t *testing.T) {
	for _, state := range []int{api.Flying, api.Acked, api.Lost} {
		for _, used := range []bool{false, true} {
			for _, coin := range []bool{false, true} {
				l := made(t, 8)
				pn := send(t, l, 1<<63|1, coin)
				if used && !l.Use(pn) || state != api.Flying && !l.Settle(pn, state) {
					t.Fatal("the ledger refuses", state, used)
				}
				sums(t, l, row(pn, pn), nil, 1<<63|1, coin, true)
				sums(t, l, row(3, 3, pn, pn), nil, 1<<63|1^103, coin, true)
				sums(t, l, row(3, 3, pn, pn), row(pn, pn), 1<<63|1^103, false, true)
			}
		}
	}
}

// The nonce of a packet may be 0 as that of a skipped number is, and equal nonces cancel each other out.
func TestP1401Nonces(t *testing.T) {
	l := ledger.New(6, 99)
	for _, nonce := range []uint64{0, api.Top, 5, 5, 5} {
		send(t, l, nonce, false)
	}
	sums(t, l, row(0, 0), nil, 0, false, true)
	sums(t, l, row(0, 1), nil, api.Top, false, true)
	sums(t, l, row(2, 3), nil, 0, false, true)
	sums(t, l, row(2, 4), nil, 5, false, true)
	sums(t, l, row(1, 2), nil, api.Top^5, false, true)
}

// What is kept of five numbers of every kind, against every set of six numbers as a claim, and every other one as marks.
// The nonces are different bits, so that the sum tells which ones are in it.
func TestP1401Exact(t *testing.T) {
	const numbers, ring = 5, 4
	spans := rows(1 << (numbers + 1))
	for code := range 3 * 3 * 3 * 3 * 3 {
		l := coded(t, code, numbers, ring)
		for _, claimed := range spans {
			for _, marked := range spans {
				xor, parity, ok := quickSum(l, claimed, marked)
				if x, p, o := Sum(l, claimed, marked); x != xor || p != parity || o != ok {
					t.Fatalf("Sum of %v, %v with %+v: %d, %v, %v; want %d, %v, %v", claimed, marked, l.All(), x, p, o, xor, parity, ok)
				}
			}
		}
	}
}

// rows tells the rows of all sets less than n.
func rows(n int) [][]api.Span {
	var l [][]api.Span
	for set := range n {
		l = append(l, spansOf(set))
	}
	return l
}

// coded tells a ledger of some numbers that are, by the digits of code, skipped or packets with one coin or the other.
func coded(t *testing.T, code, numbers, ring int) *ledger.Ledger {
	t.Helper()
	l := ledger.New(ring, 99)
	for pn := range numbers {
		if code%3 == 2 {
			skip(t, l)
		} else {
			send(t, l, 1<<pn, code%3 == 1)
		}
		code /= 3
	}
	return l
}

// quickSum tells the same as wantSum for claims of numbers below 6.
func quickSum(l *ledger.Ledger, claimed, marked []api.Span) (uint64, bool, bool) {
	xor, parity := uint64(0), false
	for _, span := range claimed {
		for pn := span.Lo; pn <= span.Hi; pn++ {
			s, ok := l.Get(pn)
			if !ok || s.State == api.Skip {
				return 0, false, false
			}
			xor += s.Nonce
			if s.Coin && !in(marked, pn) {
				parity = !parity
			}
		}
	}
	return xor, parity, true
}

// drawn tells a ledger of some ring with some numbers, and drawnRow a row near its numbers.
func drawn(t *testing.T, r *rand.Rand) *ledger.Ledger {
	t.Helper()
	l := ledger.New(4+r.Intn(30), 99)
	for range r.Intn(60) {
		if r.Intn(20) == 0 {
			skip(t, l)
		} else {
			send(t, l, r.Uint64(), r.Intn(2) == 0)
		}
		if r.Intn(3) == 0 {
			l.Settle(l.Low()+uint64(r.Intn(30)), api.Acked)
		}
	}
	return l
}

func drawnRow(r *rand.Rand, lo uint64) []api.Span {
	var l []api.Span
	for range r.Intn(4) {
		lo += uint64(r.Intn(5))
		hi := lo + uint64(r.Intn(4))
		l = append(l, api.Span{Lo: lo, Hi: hi})
		lo = hi + 2
	}
	return l
}

func TestP1401Drawn(t *testing.T) {
	r := rand.New(rand.NewSource(14))
	seen := map[bool]int{}
	for range 500 {
		l := drawn(t, r)
		for range 60 {
			claimed, marked := drawnRow(r, l.Low()), drawnRow(r, l.Low())
			xor, parity, ok := wantSum(l, claimed, marked)
			sums(t, l, claimed, marked, xor, parity, ok)
			seen[ok]++
		}
	}
	if seen[true] < 5000 || seen[false] < 5000 {
		t.Error("too few of one kind:", seen)
	}
}

// Rows may be longer here than in an acknowledgment: all of a full ledger of the longest ring is summed up, and a row that is far longer than it ends soon.
func TestP1401LongRows(t *testing.T) {
	l := ledger.New(api.MaxRing, 9999)
	r := rand.New(rand.NewSource(256))
	for range api.MaxRing {
		send(t, l, r.Uint64(), r.Intn(2) == 0)
	}
	half := singles(api.MaxRing/2, 0)
	xor, odd := uint64(0), false
	for _, s := range l.All() {
		if s.Pn%2 == 0 {
			xor ^= s.Nonce
			odd = odd != s.Coin
		}
	}
	long := singles(100_000, 1)
	sums(t, l, half, nil, xor, odd, true)
	sums(t, l, half, long, xor, odd, true)
	sums(t, l, half, row(0, api.MaxPn), xor, false, true)
	sums(t, l, half, singles(100_000, 0), xor, false, true)
	sums(t, l, long, nil, 0, false, false)
	sums(t, l, long, half, 0, false, false)
	sums(t, l, singles(api.MaxRing/2+1, 0), nil, 0, false, false)
	sums(t, l, row(0, api.MaxRing), nil, 0, false, false)
	sums(t, l, row(0, api.MaxPn), row(0, api.MaxPn), 0, false, false)
}

// The places of numbers in a ring turn round and round, but their sums do not.
func TestP1401BehindTheRing(t *testing.T) {
	for next := range uint64(40) {
		l := made(t, next)
		for lo := range next {
			for hi := lo; hi < next; hi++ {
				xor, parity, ok := wantSum(l, row(lo, hi), nil)
				sums(t, l, row(lo, hi), nil, xor, parity, ok)
			}
		}
	}
}

// Not valid is what is not, whether it would prove something otherwise or not, and whatever else is wrong with it.
func TestP1402Form(t *testing.T) {
	bad := []api.Ack{{}, {Spans: []api.Span{}}, {Marked: row(3, 3)}, {Xor: 5, Parity: true}}
	for _, spans := range notRows() {
		bad = append(bad, api.Ack{Spans: spans}, api.Ack{Spans: row(2, 7), Marked: spans}, api.Ack{Spans: row(0, 900), Marked: spans})
	}
	bad = append(bad,
		api.Ack{Spans: row(3, 4), Marked: row(5, 5)},
		api.Ack{Spans: row(3, 4), Marked: row(4, 5)},
		api.Ack{Spans: row(3, 4), Marked: row(2, 3)},
		api.Ack{Spans: row(3, 4, 6, 7), Marked: row(4, 6)},
		api.Ack{Spans: row(3, 3), Marked: row(0, api.MaxPn)},
		api.Ack{Spans: singles(api.MaxSpans+1, 2)},
		api.Ack{Spans: singles(api.MaxSpans+1, 90)},
		api.Ack{Spans: row(2, 300), Marked: singles(api.MaxSpans+1, 2)},
	)
	for _, l := range []*ledger.Ledger{nil, made(t, 0), made(t, 5), made(t, 8), made(t, 8, 3, 4), made(t, 30)} {
		for _, a := range bad {
			a.Xor, a.Parity, _ = Sum(l, a.Spans, a.Marked)
			checks(t, l, a, api.WForm, 0)
		}
	}
}

func TestP1402NilLedger(t *testing.T) {
	for _, a := range []api.Ack{{}, {Spans: row(0, 0)}, {Spans: row(0, api.MaxPn)}, {Spans: row(2, 3), Marked: row(2, 2)}, {Spans: row(5, 4)}} {
		checks(t, nil, a, api.WForm, 0)
	}
}

func TestP1402Table(t *testing.T) {
	// The numbers 4 to 9 are kept; 4 and 7 have coins that are true.
	l := made(t, 10, 5, 8)
	if l.Low() != 4 || l.Next() != 10 {
		t.Fatal("the ledger keeps", l.Low(), l.Next())
	}
	for _, x := range []struct {
		a   api.Ack
		why int
		pn  uint64
	}{
		{api.Ack{Spans: row(0, 0)}, api.WStale, 0},
		{api.Ack{Spans: row(3, 3)}, api.WStale, 0},
		{api.Ack{Spans: row(3, 4), Xor: 104}, api.WStale, 0},
		{api.Ack{Spans: row(3, 6)}, api.WStale, 0},
		{api.Ack{Spans: row(3, 3, 6, 90)}, api.WStale, 0},
		{api.Ack{Spans: row(0, api.MaxPn)}, api.WStale, 0},
		{api.Ack{Spans: row(4, 10)}, api.WAhead, 10},
		{api.Ack{Spans: row(4, 11)}, api.WAhead, 10},
		{api.Ack{Spans: row(4, api.MaxPn)}, api.WAhead, 10},
		{api.Ack{Spans: row(10, 10)}, api.WAhead, 10},
		{api.Ack{Spans: row(11, 15)}, api.WAhead, 11},
		{api.Ack{Spans: row(4, 4, 12, 12, 14, 14), Xor: 104}, api.WAhead, 12},
		{api.Ack{Spans: row(4, 5, 8, 8, 90, 95)}, api.WAhead, 90},
		{api.Ack{Spans: row(5, 5, api.MaxPn, api.MaxPn)}, api.WAhead, api.MaxPn},
		{api.Ack{Spans: row(api.MaxPn, api.MaxPn)}, api.WAhead, api.MaxPn},
		{api.Ack{Spans: row(5, 5)}, api.WSkip, 5},
		{api.Ack{Spans: row(8, 8)}, api.WSkip, 8},
		{api.Ack{Spans: row(4, 9)}, api.WSkip, 5},
		{api.Ack{Spans: row(6, 9)}, api.WSkip, 8},
		{api.Ack{Spans: row(4, 5), Xor: 104}, api.WSkip, 5},
		{api.Ack{Spans: row(4, 5), Marked: row(5, 5), Xor: 104}, api.WSkip, 5},
		{api.Ack{Spans: row(4, 4, 6, 8), Xor: 104 ^ 106 ^ 107, Parity: true}, api.WSkip, 8},
		{api.Ack{Spans: row(4, 4)}, api.WXor, 0},
		{api.Ack{Spans: row(4, 4), Xor: 105}, api.WXor, 0},
		{api.Ack{Spans: row(4, 4), Xor: 104 ^ 1<<63}, api.WXor, 0},
		{api.Ack{Spans: row(4, 4), Xor: api.Top}, api.WXor, 0},
		{api.Ack{Spans: row(7, 7), Xor: 106}, api.WXor, 0},
		{api.Ack{Spans: row(6, 7), Xor: 107}, api.WXor, 0},
		{api.Ack{Spans: row(7, 7), Marked: row(7, 7), Xor: 0}, api.WXor, 0},
		{api.Ack{Spans: row(4, 4), Xor: 104}, api.WParity, 0},
		{api.Ack{Spans: row(6, 6), Xor: 106, Parity: true}, api.WParity, 0},
		{api.Ack{Spans: row(7, 7), Xor: 107}, api.WParity, 0},
		{api.Ack{Spans: row(6, 7), Marked: row(6, 6), Xor: 106 ^ 107}, api.WParity, 0},
		{api.Ack{Spans: row(6, 7), Marked: row(7, 7), Xor: 106 ^ 107, Parity: true}, api.WParity, 0},
		{api.Ack{Spans: row(4, 4), Xor: 104, Parity: true}, api.Fine, 0},
		{api.Ack{Spans: row(6, 6), Xor: 106}, api.Fine, 0},
		{api.Ack{Spans: row(7, 7), Xor: 107, Parity: true}, api.Fine, 0},
		{api.Ack{Spans: row(7, 7), Marked: row(7, 7), Xor: 107}, api.Fine, 0},
		{api.Ack{Spans: row(4, 4, 6, 7, 9, 9), Xor: 104 ^ 106 ^ 107 ^ 109}, api.Fine, 0},
		{api.Ack{Spans: row(4, 4, 6, 7, 9, 9), Marked: row(4, 4, 6, 6), Xor: 104 ^ 106 ^ 107 ^ 109, Parity: true}, api.Fine, 0},
		{api.Ack{Spans: row(4, 4, 6, 7, 9, 9), Marked: row(6, 7), Xor: 104 ^ 106 ^ 107 ^ 109, Parity: true}, api.Fine, 0},
	} {
		checks(t, l, x.a, x.why, x.pn)
		// The trigger is not this layer's.
		x.a.Trigger = 104
		checks(t, l, x.a, x.why, x.pn)
	}
}

// A ledger without numbers has nothing that could be proved; as long as every number is kept, nothing is stale.
func TestP1402Low(t *testing.T) {
	for _, pn := range []uint64{0, 1, api.MaxPn} {
		checks(t, made(t, 0), api.Ack{Spans: row(pn, pn)}, api.WAhead, pn)
	}
	for next := uint64(1); next <= 6; next++ {
		checks(t, made(t, next), api.Ack{Spans: row(0, 0), Xor: 100}, api.Fine, 0)
		checks(t, made(t, next), api.Ack{Spans: row(0, next), Xor: 100}, api.WAhead, next)
	}
	checks(t, made(t, 7), api.Ack{Spans: row(0, 0), Xor: 100}, api.WStale, 0)
	checks(t, made(t, 7), api.Ack{Spans: row(1, 1), Xor: 101, Parity: true}, api.Fine, 0)
}

// What is kept of four numbers of every kind, against every claim of five numbers with every set of marks, right and wrong proofs.
func TestP1402Exact(t *testing.T) {
	const numbers = 4
	spans := rows(1 << (numbers + 1))
	for code := range 3 * 3 * 3 * 3 {
		l := coded(t, code, numbers, numbers)
		for claim, claimed := range spans[1:] {
			for mark, marked := range spans {
				a := api.Ack{Spans: claimed, Marked: marked}
				xor, parity, _ := wantSum(l, claimed, marked)
				for _, a.Xor = range []uint64{xor, xor ^ 1, xor ^ 16, 0} {
					for _, a.Parity = range []bool{parity, !parity} {
						why, pn := api.WForm, uint64(0)
						if mark&^(claim+1) == 0 {
							why, pn = wantCheck(l, a)
						}
						if w, n := Check(l, a); w != why || n != pn {
							t.Fatalf("Check of %+v with %+v: %d, %d; want %d, %d", a, l.All(), w, n, why, pn)
						}
					}
				}
			}
		}
	}
}

func TestP1402Drawn(t *testing.T) {
	r := rand.New(rand.NewSource(1402))
	seen := map[int]int{}
	for range 1000 {
		l := drawn(t, r)
		for range 60 {
			a := api.Ack{Spans: drawnRow(r, l.Low()-min(l.Low(), uint64(r.Intn(2)))), Trigger: r.Uint64()}
			if len(a.Spans) == 0 {
				continue
			}
			if s := a.Spans[r.Intn(len(a.Spans))]; r.Intn(2) == 0 {
				a.Marked = row(s.Lo, s.Lo+uint64(r.Intn(int(s.Hi-s.Lo)+1)))
			}
			a.Xor, a.Parity, _ = wantSum(l, a.Spans, a.Marked)
			if r.Intn(4) == 0 {
				a.Xor ^= 1 << r.Intn(64)
			}
			a.Parity = a.Parity != (r.Intn(4) == 0)
			why, pn := wantCheck(l, a)
			checks(t, l, a, why, pn)
			seen[why]++
		}
	}
	for _, why := range []int{api.Fine, api.WStale, api.WAhead, api.WSkip, api.WXor, api.WParity} {
		if seen[why] < 1000 {
			t.Errorf("reason %d came up %d times only", why, seen[why])
		}
	}
}

// The most spans that there can be prove as much as one does.
func TestP1402MostSpans(t *testing.T) {
	l := ledger.New(api.MaxRing, 999)
	for l.Next() < 200 {
		send(t, l, 1000*l.Next(), l.Next()%4 == 0)
	}
	for _, marked := range [][]api.Span{nil, row(4, 4), singles(api.MaxSpans, 2)} {
		a := api.Ack{Spans: singles(api.MaxSpans, 2), Marked: marked}
		a.Xor, a.Parity, _ = wantSum(l, a.Spans, a.Marked)
		checks(t, l, a, api.Fine, 0)
		a.Parity = !a.Parity
		checks(t, l, a, api.WParity, 0)
		a.Xor ^= 1
		checks(t, l, a, api.WXor, 0)
	}
}

// The ledger and the arguments, the spare capacity of their spans too, are as they were, and a second call says the same.
func TestP1402ChangesNothing(t *testing.T) {
	l := made(t, 10, 5)
	spare := func(spans []api.Span) []api.Span { return append(spans, row(31, 32, 41, 42)...)[:len(spans)] }
	for _, x := range [][2][]api.Span{
		{row(6, 5), row(6, 6)},
		{row(3, 4), row(4, 4)},
		{row(4, 4, 6, 90), row(7, 8)},
		{row(4, 6), nil},
		{row(4, 4, 6, 9), row(4, 4, 7, 8)},
	} {
		was := l.Fork()
		a := api.Ack{Spans: spare(x[0]), Marked: spare(x[1]), Trigger: 104}
		spans, marked := slices.Clone(a.Spans[:len(a.Spans)+2]), slices.Clone(a.Marked[:len(a.Marked)+2])
		xor, parity, ok := Sum(l, a.Spans, a.Marked)
		sums(t, l, a.Spans, a.Marked, xor, parity, ok)
		for _, a.Xor = range []uint64{xor, xor ^ 1} {
			why, pn := Check(l, a)
			checks(t, l, a, why, pn)
		}
		if !reflect.DeepEqual(l, was) {
			t.Errorf("%v: the ledger has changed", x)
		}
		if !slices.Equal(a.Spans[:len(spans)], spans) || !slices.Equal(a.Marked[:len(marked)], marked) {
			t.Errorf("%v: the arguments have changed", x)
		}
	}
}

// told tells what an honest receiver acknowledges: the packets that came, the marks among them, and the proofs from what it saw of them alone.
func told(l *ledger.Ledger, came, marks int) api.Ack {
	a := api.Ack{Spans: spansOf(came), Marked: spansOf(came & marks)}
	for _, s := range l.All() {
		if came>>s.Pn&1 == 0 {
			continue
		}
		a.Xor ^= s.Nonce
		if marks>>s.Pn&1 == 0 {
			a.Parity = a.Parity != s.Coin
		}
	}
	return a
}

// Whatever came, and whichever of it was marked, can be proved.
func TestP1403Honest(t *testing.T) {
	const packets = 6
	r := rand.New(rand.NewSource(1403))
	for range 20 {
		l := ledger.New(packets, 99)
		for range packets {
			send(t, l, r.Uint64(), r.Intn(2) == 0)
		}
		for came := 1; came < 1<<packets; came++ {
			for marks := range 1 << packets {
				checks(t, l, told(l, came, marks), api.Fine, 0)
			}
		}
	}
}

// proofs are what a receiver has to tell beside its claims.
type proofs struct {
	xor    uint64
	parity bool
}

// tally counts, for each proof there can be, whether it is good for the claim and the marks.
func tally(l *ledger.Ledger, claim, marks, bits int, fine map[proofs]int) {
	for xor := range uint64(1) << bits {
		for _, parity := range []bool{false, true} {
			a := api.Ack{Spans: spansOf(claim), Marked: spansOf(claim & marks), Xor: xor, Parity: parity}
			if why, _ := Check(l, a); why == api.Fine {
				fine[proofs{xor, parity}]++
			}
		}
	}
}

// Whatever is told of a packet that did not come, it is good for no more than one of the nonces that the packet may have been sent with, and for each of these there is something that is good.
func TestP1403Guess(t *testing.T) {
	const bits, packets, unseen = 4, 4, 2
	for came := range 1 << packets {
		if came>>unseen&1 == 1 {
			continue
		}
		for marks := range 1 << packets {
			fine := map[proofs]int{}
			for nonce := range uint64(1) << bits {
				tally(guessed(t, packets, unseen, nonce), came|1<<unseen, marks, bits, fine)
			}
			for told, n := range fine {
				if n > 1 {
					t.Errorf("came %b, marked %b: %v is good for %d nonces", came, marks, told, n)
				}
			}
			if len(fine) != 1<<bits {
				t.Errorf("came %b, marked %b: %d proofs are good for some nonce", came, marks, len(fine))
			}
		}
	}
}

// guessed tells a ledger of packets of which the one that did not come has nonce.
func guessed(t *testing.T, packets, unseen, nonce uint64) *ledger.Ledger {
	t.Helper()
	l := ledger.New(int(packets), 99)
	for pn := range packets {
		if pn == unseen {
			send(t, l, nonce, true)
		} else {
			send(t, l, 3*pn+1, pn%2 == 0)
		}
	}
	return l
}
