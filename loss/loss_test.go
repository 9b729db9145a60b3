package loss

import (
	"math/big"
	"math/rand"
	"reflect"
	"slices"
	"testing"

	"splittally/api"
	"splittally/ledger"
)

// packet is what a number of a ledger has become, and when it was sent.
type packet struct {
	state int
	at    uint64
}

// add gives the next number to a packet, or to none, and makes it what p tells.
func add(t *testing.T, l *ledger.Ledger, p packet) {
	t.Helper()
	pn, e := l.Next(), api.OK
	if p.state == api.Skip {
		_, e = l.Skip()
	} else {
		_, e = l.Send(api.Sent{Off: 5 * pn, Len: 1 + pn%9, Nonce: ^pn, At: p.at, Coin: pn%2 == 0})
	}
	if p.state == api.Acked || p.state == api.Lost {
		l.Settle(pn, p.state)
	}
	if s, ok := l.Get(pn); e != api.OK || !ok || s.State != p.state {
		t.Fatalf("%d has not become %+v: %d, %+v", pn, p, e, s)
	}
}

// ledgerOf tells a ledger with a ring of n whose numbers are the packets of l.
func ledgerOf(t *testing.T, n int, l []packet) *ledger.Ledger {
	t.Helper()
	made := ledger.New(n, api.MaxPn)
	for _, p := range l {
		add(t, made, p)
	}
	return made
}

// flights tells a ledger of packets that all fly and were sent at the times ats.
func flights(t *testing.T, ats ...uint64) *ledger.Ledger {
	t.Helper()
	var l []packet
	for _, at := range ats {
		l = append(l, packet{api.Flying, at})
	}
	return ledgerOf(t, 16, l)
}

func large(x uint64) *big.Int { return new(big.Int).SetUint64(x) }

// want tells what Find has to answer, of exact sums, and asks number by number.
func want(l *ledger.Ledger, largest, now, window uint64) ([]uint64, uint64) {
	var lost []uint64
	first := large(api.Top)
	for pn := range l.Next() {
		s, ok := l.Get(pn)
		if !ok || s.State != api.Flying || pn >= largest {
			continue
		}
		reach := new(big.Int).Add(large(pn), big.NewInt(3))
		end := new(big.Int).Add(large(s.At), large(window))
		// Since is never less than 0, so that a window of 0 is over even ahead of At.
		if reach.Cmp(large(largest)) <= 0 || window == 0 || end.Cmp(large(now)) <= 0 {
			lost = append(lost, pn)
		} else if end.Cmp(first) < 0 {
			first = end
		}
	}
	return lost, first.Uint64()
}

// finds holds Find against lost and next, and the ledger behind it against what it was.
func finds(t *testing.T, l *ledger.Ledger, largest, now, window uint64, lost []uint64, next uint64) {
	t.Helper()
	was := l.Fork()
	got, then := Find(l, largest, now, window)
	if !slices.Equal(got, lost) || then != next {
		t.Errorf("Find(%+v, %d, %d, %d): %v, %d; want %v, %d", l.All(), largest, now, window, got, then, lost, next)
	}
	if !reflect.DeepEqual(l, was) {
		t.Errorf("Find(%d, %d, %d) changed the ledger from %+v to %+v", largest, now, window, was.All(), l.All())
	}
}

// agrees holds Find against want.
func agrees(t *testing.T, l *ledger.Ledger, largest, now, window uint64) {
	t.Helper()
	lost, next := want(l, largest, now, window)
	finds(t, l, largest, now, window, lost, next)
}

// edges tells times, windows and numbers at both ends of their range.
func edges() []uint64 {
	return []uint64{0, 1, 2, 3, 4, 5, 9, 1 << 32, api.MaxPn, api.MaxPn + 1, 1<<63 - 1, 1 << 63, api.Top - 3, api.Top - 2, api.Top - 1, api.Top}
}

// Neither nil nor a ledger without packets has anything to be lost, whatever is asked.
func TestP1801Empty(t *testing.T) {
	skips := ledger.New(4, 9)
	for range 7 {
		skips.Skip()
	}
	for _, l := range []*ledger.Ledger{nil, {}, ledger.New(4, 9), ledger.New(256, api.Top), skips} {
		for _, largest := range edges() {
			for _, now := range edges() {
				for _, window := range edges() {
					finds(t, l, largest, now, window, nil, api.Top)
				}
			}
		}
	}
}

// Only what is less than largest is considered: neither lost nor a reason to wait.
func TestP1801BelowLargest(t *testing.T) {
	l := flights(t, 10, 20, 30, 40)
	for _, x := range []struct {
		largest uint64
		lost    []uint64
		next    uint64
	}{
		{0, nil, api.Top},
		{1, nil, 110},
		{2, nil, 110},
		{3, []uint64{0}, 120},
		{4, []uint64{0, 1}, 130},
		{5, []uint64{0, 1, 2}, 140},
		{6, []uint64{0, 1, 2, 3}, api.Top},
		{7, []uint64{0, 1, 2, 3}, api.Top},
		{api.MaxPn, []uint64{0, 1, 2, 3}, api.Top},
		{1 << 63, []uint64{0, 1, 2, 3}, api.Top},
		{api.Top, []uint64{0, 1, 2, 3}, api.Top},
	} {
		finds(t, l, x.largest, 0, 100, x.lost, x.next)
	}
	for largest, lost := range [][]uint64{nil, {0}, {0, 1}, {0, 1, 2}, {0, 1, 2, 3}, {0, 1, 2, 3}} {
		finds(t, l, uint64(largest), 1000, 100, lost, api.Top)
		finds(t, l, uint64(largest), 0, 0, lost, api.Top)
	}
}

// A packet is lost by being overtaken whatever the time, from the third number behind it on.
func TestP1801Overtaken(t *testing.T) {
	for _, now := range edges() {
		for _, at := range edges() {
			l := flights(t, at)
			for _, largest := range []uint64{3, 4, 5, 100, api.MaxPn, api.Top} {
				finds(t, l, largest, now, api.Top, []uint64{0}, api.Top)
			}
		}
	}
	l := ledgerOf(t, 8, []packet{{state: api.Skip}, {state: api.Skip}, {state: api.Skip}, {state: api.Skip}, {api.Flying, 7}})
	finds(t, l, 4, 7, 5, nil, api.Top)
	finds(t, l, 5, 7, 5, nil, 12)
	finds(t, l, 6, 7, 5, nil, 12)
	finds(t, l, 7, 7, 5, []uint64{4}, api.Top)
}

// A packet is lost by time once the window is over, and not a microsecond before.
func TestP1801Overdue(t *testing.T) {
	for _, x := range []struct{ at, window uint64 }{
		{0, 1},
		{0, 100},
		{5, 1},
		{50, 100},
		{1 << 62, 1 << 62},
		{0, api.Top - 1},
		{api.Top - 2, 1},
		{1 << 63, 1<<63 - 2},
	} {
		l, end := flights(t, x.at), x.at+x.window
		for _, largest := range []uint64{1, 2} {
			finds(t, l, largest, 0, x.window, nil, end)
			finds(t, l, largest, x.at, x.window, nil, end)
			finds(t, l, largest, end-1, x.window, nil, end)
			finds(t, l, largest, end, x.window, []uint64{0}, api.Top)
			finds(t, l, largest, end+1, x.window, []uint64{0}, api.Top)
			finds(t, l, largest, api.Top, x.window, []uint64{0}, api.Top)
		}
	}
}

// A time that would be beyond the end of time is never; at the end of time itself a window can be over.
func TestP1801EndOfTime(t *testing.T) {
	for _, x := range []struct {
		at, window, now uint64
		lost            []uint64
	}{
		{0, api.Top, api.Top - 1, nil},
		{0, api.Top, api.Top, []uint64{0}},
		{1, api.Top, api.Top, nil},
		{1, api.Top - 1, api.Top - 1, nil},
		{1, api.Top - 1, api.Top, []uint64{0}},
		{api.Top - 5, 5, api.Top - 1, nil},
		{api.Top - 5, 5, api.Top, []uint64{0}},
		{api.Top - 5, 6, api.Top, nil},
		{api.Top - 5, 100, api.Top, nil},
		{1 << 63, 1 << 63, api.Top, nil},
		{api.Top, 1, api.Top, nil},
		{api.Top, 1, 0, nil},
		{api.Top, api.Top, api.Top, nil},
		{api.Top, 0, api.Top, []uint64{0}},
		{api.Top, 0, 0, []uint64{0}},
	} {
		finds(t, flights(t, x.at), 1, x.now, x.window, x.lost, api.Top)
	}
}

// A packet that is still to be sent, by its time, has waited 0.
func TestP1801SentLater(t *testing.T) {
	l := flights(t, 50, 40)
	finds(t, l, 2, 0, 0, []uint64{0, 1}, api.Top)
	finds(t, l, 2, 0, 1, nil, 41)
	finds(t, l, 2, 41, 1, []uint64{1}, 51)
	finds(t, l, 2, 49, 1, []uint64{1}, 51)
	finds(t, l, 2, 51, 1, []uint64{0, 1}, api.Top)
}

// Times need not ascend with numbers: the numbers answered do, and the time is the least.
func TestP1801Order(t *testing.T) {
	l := flights(t, 90, 30, 70, 10, 80, 20)
	finds(t, l, 4, 40, 20, []uint64{0, 1, 3}, 90)
	finds(t, l, 6, 40, 20, []uint64{0, 1, 2, 3, 5}, 100)
	finds(t, l, 2, 0, 20, nil, 50)
	finds(t, flights(t, 30, 90), 2, 0, 20, nil, 50)
	finds(t, flights(t, 30, 30), 2, 0, 20, nil, 50)
	finds(t, flights(t, 30, 90), 2, 50, 20, []uint64{0}, 110)
	finds(t, flights(t, 90, 30), 2, 50, 20, []uint64{1}, 110)
}

// What does not fly is neither lost nor waited for, be it overtaken or overdue or neither.
func TestP1801OnlyFlying(t *testing.T) {
	for _, state := range []int{api.Acked, api.Lost, api.Skip} {
		l := ledgerOf(t, 8, []packet{{state, 1}, {api.Flying, 50}, {state, 2}, {api.Flying, 60}, {state, 3}, {state, 4}})
		finds(t, l, 3, 0, 100, nil, 150)
		finds(t, l, 4, 0, 100, []uint64{1}, 160)
		finds(t, l, 5, 0, 100, []uint64{1}, 160)
		finds(t, l, 6, 0, 100, []uint64{1, 3}, api.Top)
		finds(t, l, 6, 500, 100, []uint64{1, 3}, api.Top)
		finds(t, l, 1, 500, 100, nil, api.Top)
		finds(t, l, 100, 500, 0, []uint64{1, 3}, api.Top)
	}
}

// Whether a nonce was used says nothing of loss.
func TestP1801Used(t *testing.T) {
	l := flights(t, 10, 20, 30)
	l.Use(0)
	l.Use(1)
	finds(t, l, 2, 0, 100, nil, 110)
	finds(t, l, 3, 0, 100, []uint64{0}, 120)
	finds(t, l, 3, 115, 100, []uint64{0}, 120)
	finds(t, l, 3, 120, 100, []uint64{0, 1}, 130)
}

// Find tells and does not settle: asked again, it answers the same, until someone settles.
func TestP1801ChangesNothing(t *testing.T) {
	l := flights(t, 10, 20, 30, 40, 50)
	for range 3 {
		finds(t, l, 5, 0, 100, []uint64{0, 1, 2}, 140)
		if l.Flight() != 15 || l.Least() != 0 {
			t.Errorf("flight %d, least %d", l.Flight(), l.Least())
		}
	}
	l.Settle(1, api.Lost)
	finds(t, l, 5, 0, 100, []uint64{0, 2}, 140)
	l.Settle(3, api.Acked)
	finds(t, l, 5, 0, 100, []uint64{0, 2}, 150)
}

// An answer is new memory: writing into it changes neither the ledger nor a later answer.
func TestP1801NewMemory(t *testing.T) {
	l := flights(t, 10, 20, 30, 40, 50)
	was := l.Fork()
	first, _ := Find(l, 9, 0, 100)
	second, _ := Find(l, 9, 0, 100)
	for i := range first[:cap(first)] {
		first[:cap(first)][i] = 77
	}
	if !slices.Equal(second, []uint64{0, 1, 2, 3, 4}) || !reflect.DeepEqual(l, was) {
		t.Errorf("%v, %+v", second, l.All())
	}
	finds(t, l, 9, 0, 100, []uint64{0, 1, 2, 3, 4}, api.Top)
}

// In a ledger that has forgotten its first numbers, the ring's order is not that of the numbers.
func TestP1801Rings(t *testing.T) {
	for _, ring := range []int{4, 5, 7, 32} {
		l := ledger.New(ring, api.MaxPn)
		for n := range uint64(3*ring + 2) {
			add(t, l, packet{api.Flying, 1000 - n})
			for largest := sub(n, 7); largest <= n+4; largest++ {
				for _, now := range []uint64{0, 1100 - n, 1101 - n, 1103 - n, api.Top} {
					agrees(t, l, largest, now, 100)
				}
			}
			if n%2 == 1 || l.Room() == 0 {
				l.Settle(l.Least(), []int{api.Acked, api.Lost}[n%3%2])
			}
		}
		if l.Low() == 0 {
			t.Fatalf("ring %d: nothing was forgotten", ring)
		}
	}
}

// sub tells a - b, at least 0.
func sub(a, b uint64) uint64 { return a - min(a, b) }

// The greatest ledger answers all that it keeps.
func TestP1801Full(t *testing.T) {
	l, all := ledger.New(api.MaxRing, api.MaxPn), []uint64(nil)
	for n := range uint64(api.MaxRing) {
		add(t, l, packet{api.Flying, 10 * n})
		all = append(all, n)
	}
	finds(t, l, 256, 0, 100, all[:254], 2640)
	finds(t, l, 256, 2640, 100, all[:255], 2650)
	finds(t, l, 256, 2650, 100, all, api.Top)
	finds(t, l, 257, 0, 100, all[:255], 2650)
	finds(t, l, 258, 0, 100, all, api.Top)
}

// All ledgers of four numbers of every state, with all small numbers, times and windows.
func TestP1801Small(t *testing.T) {
	states := []int{api.Flying, api.Acked, api.Lost, api.Skip}
	for code := range 256 {
		var l []packet
		for i := range 4 {
			l = append(l, packet{states[code>>(2*i)%4], []uint64{3, 1, 4, 2}[i]})
		}
		made := ledgerOf(t, 4, l)
		for largest := range uint64(9) {
			for now := range uint64(9) {
				for window := range uint64(6) {
					agrees(t, made, largest, now, window)
				}
			}
		}
	}
}

// Times, windows and numbers at both ends of the range, all with all.
func TestP1801Edges(t *testing.T) {
	for _, at := range edges() {
		for _, other := range edges() {
			l := flights(t, at, other)
			for _, now := range edges() {
				for _, window := range edges() {
					for _, largest := range []uint64{0, 1, 2, 3, 4, 5, api.Top} {
						agrees(t, l, largest, now, window)
					}
				}
			}
		}
	}
}

// drawn tells a ledger of drawn packets, and a scale of their times.
func drawn(t *testing.T, r *rand.Rand) (*ledger.Ledger, uint64) {
	t.Helper()
	scale := uint64(1) << r.Intn(64)
	l := ledger.New(4+r.Intn(20), api.MaxPn)
	for range r.Intn(60) {
		if l.Room() == 0 {
			l.Settle(l.Least(), api.Lost)
		}
		state := []int{api.Flying, api.Flying, api.Flying, api.Acked, api.Lost, api.Skip}[r.Intn(6)]
		add(t, l, packet{state, r.Uint64() % scale})
	}
	return l, scale
}

func TestP1801Drawn(t *testing.T) {
	r := rand.New(rand.NewSource(18))
	for range 3000 {
		l, scale := drawn(t, r)
		for range 10 {
			agrees(t, l, uint64(r.Intn(int(l.Next())+5)), r.Uint64()%scale*2, r.Uint64()%scale)
		}
	}
}

// waits holds P1802 against l: until the time that Find tells nothing more is lost, and at that time something is.
func waits(t *testing.T, l *ledger.Ledger, largest, now, window uint64) {
	t.Helper()
	lost, next := Find(l, largest, now, window)
	if next == api.Top {
		return
	}
	if next <= now {
		t.Errorf("Find(%+v, %d, %d, %d): %d is over", l.All(), largest, now, window, next)
	}
	for _, at := range []uint64{now, now + (next-now)/2, next - 1} {
		if got, then := Find(l, largest, at, window); !slices.Equal(got, lost) || then != next {
			t.Errorf("Find(%+v, %d, %d, %d): %v, %d; and at %d %v, %d", l.All(), largest, now, window, lost, next, at, got, then)
		}
	}
	got, then := Find(l, largest, next, window)
	if len(got) <= len(lost) || then <= next || !slices.IsSorted(got) {
		t.Errorf("Find(%+v, %d, %d, %d): at its time %d %v, %d", l.All(), largest, now, window, next, got, then)
	}
	for _, pn := range lost {
		if !slices.Contains(got, pn) {
			t.Errorf("Find(%+v, %d, %d, %d): %d is lost no more", l.All(), largest, next, window, pn)
		}
	}
}

// empties goes from time to time and settles what is lost, until all that could be is.
func empties(t *testing.T, l *ledger.Ledger, largest, now, window uint64) {
	t.Helper()
	for range api.MaxRing + 1 {
		lost, next := Find(l, largest, now, window)
		for _, pn := range lost {
			if !l.Settle(pn, api.Lost) {
				t.Errorf("%d was not flying", pn)
			}
		}
		if next == api.Top {
			break
		}
		now = next
	}
	for _, s := range l.All() {
		// What is left would be lost at the end of time or later: never.
		if s.State == api.Flying && s.Pn < largest && s.At < api.Top-window {
			t.Errorf("%+v still flies, below %d, at %d, with %d", s, largest, now, window)
		}
	}
}

func TestP1802LostAtItsTime(t *testing.T) {
	r := rand.New(rand.NewSource(1802))
	for range 2000 {
		l, scale := drawn(t, r)
		for range 10 {
			largest, now, window := uint64(r.Intn(int(l.Next())+5)), r.Uint64()%scale, r.Uint64()%scale
			waits(t, l, largest, now, window)
			empties(t, l.Fork(), largest, now, window)
		}
	}
}

func TestP1802Edges(t *testing.T) {
	for _, at := range edges() {
		for _, other := range edges() {
			l := flights(t, at, other)
			for _, now := range edges() {
				for _, window := range edges() {
					waits(t, l, 2, now, window)
					empties(t, l.Fork(), 2, now, window)
				}
			}
		}
	}
}

// A timer that is set to what Find tells takes packets one by one, each at its time.
func TestP1802Timer(t *testing.T) {
	l := flights(t, 10, 10, 20, 35, 36, 90)
	finds(t, l, 6, 40, 60, []uint64{0, 1, 2, 3}, 96)
	finds(t, l, 6, 96, 60, []uint64{0, 1, 2, 3, 4}, 150)
	finds(t, l, 6, 150, 60, []uint64{0, 1, 2, 3, 4, 5}, api.Top)
	for _, pn := range []uint64{0, 1, 2, 3, 4} {
		l.Settle(pn, api.Lost)
	}
	finds(t, l, 6, 149, 60, nil, 150)
	finds(t, l, 6, 150, 60, []uint64{5}, api.Top)
	l.Settle(5, api.Lost)
	finds(t, l, 6, 150, 60, nil, api.Top)
}
