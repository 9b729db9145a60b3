package guard

import (
	"math"
	"math/rand"
	"slices"
	"testing"

	"splittally/ack"
	"splittally/api"
	"splittally/ledger"
)

// row tells the spans of pairs of numbers.
func row(l ...uint64) []api.Span {
	var spans []api.Span
	for i := 0; i+1 < len(l); i += 2 {
		spans = append(spans, api.Span{Lo: l[i], Hi: l[i+1]})
	}
	return spans
}

// spansOf tells the row of the numbers whose bits are in set.
func spansOf(set int) []api.Span {
	var l []api.Span
	for pn := uint64(0); set>>pn > 0; pn++ {
		switch {
		case set>>pn&1 == 0:
		case len(l) > 0 && l[len(l)-1].Hi+1 == pn:
			l[len(l)-1].Hi = pn
		default:
			l = append(l, api.Span{Lo: pn, Hi: pn})
		}
	}
	return l
}

// in reports whether pn is in one of the spans.
func in(spans []api.Span, pn uint64) bool {
	return slices.ContainsFunc(spans, func(s api.Span) bool { return s.Lo <= pn && pn <= s.Hi })
}

// frame tells the bytes of a valid acknowledgment.
func frame(t *testing.T, a api.Ack) []byte {
	t.Helper()
	b, e := ack.Encode(a)
	if e != api.OK {
		t.Fatalf("%+v has no encoding: %d", a, e)
	}
	return b
}

// sameAck tells whether two acknowledgments are alike.
func sameAck(a, b api.Ack) bool {
	return slices.Equal(a.Spans, b.Spans) && slices.Equal(a.Marked, b.Marked) && a.Trigger == b.Trigger && a.Xor == b.Xor && a.Parity == b.Parity
}

// sameEvidence tells whether two pieces of evidence are alike.
func sameEvidence(a, b api.Evidence) bool {
	return a.At == b.At && a.Pn == b.Pn && a.Used == b.Used && a.Why == b.Why && sameAck(a.Ack, b.Ack)
}

// made tells a ledger of a ring of 6 that has assigned 0 to 7 and keeps 2 to 7: 5 is skipped, the others have nonces from 100 on, and the odd ones coins that are true; 2 is lost, 3 acknowledged, 4 used.
func made(t *testing.T) *ledger.Ledger {
	t.Helper()
	l := ledger.New(6, 99)
	for pn := range uint64(8) {
		if l.Room() == 0 {
			l.Settle(l.Least(), api.Lost)
		}
		e := api.OK
		if pn == 5 {
			_, e = l.Skip()
		} else {
			_, e = l.Send(api.Sent{Off: 10 * pn, Len: 1 + pn, Nonce: 100 + pn, At: pn, Coin: pn%2 == 1})
		}
		if e != api.OK {
			t.Fatal(pn, "is not assigned", e)
		}
	}
	if !l.Settle(2, api.Lost) || !l.Settle(3, api.Acked) || !l.Use(4) || l.Low() != 2 || l.Next() != 8 {
		t.Fatal("the ledger is not as it should be")
	}
	return l
}

// proven tells a with the proofs that are right for those of its claims that l keeps.
func proven(l *ledger.Ledger, a api.Ack) api.Ack {
	a.Xor, a.Parity = 0, false
	for _, s := range l.All() {
		if in(a.Spans, s.Pn) {
			a.Xor ^= s.Nonce
			a.Parity = a.Parity != (s.Coin && !in(a.Marked, s.Pn))
		}
	}
	return a
}

// good tells an acknowledgment that made's ledger takes: its trigger is the nonce of 6.
func good(t *testing.T) api.Ack {
	t.Helper()
	return proven(made(t), api.Ack{Spans: row(2, 4, 6, 7), Marked: row(3, 3), Trigger: 106})
}

// model is a plain guard: it goes through all numbers one by one and keeps the time of every challenge.
type model struct {
	most      int
	every     uint64
	now       uint64
	times     []uint64
	counts    api.Counts
	evidences []api.Evidence
}

// modelOf tells the model of New(most, every).
func modelOf(most int, every uint64) *model {
	return &model{most: max(0, min(api.MaxGrant, most)), every: every}
}

// fork tells an independent model in the same state.
func (m *model) fork() *model {
	f := *m
	f.times = slices.Clone(m.times)
	f.evidences = slices.Clone(m.evidences)
	return &f
}

// ask tells whether a challenge is granted.
func (m *model) ask(now uint64) bool {
	m.now = max(m.now, now)
	near := 0
	for _, at := range m.times {
		if m.now-at < m.every {
			near++
		}
	}
	if near >= m.most {
		return false
	}
	m.times = append(m.times, m.now)
	return true
}

// trigger tells the least number that is claimed and has an unused nonce that is the trigger, and api.Fine, or why there is none.
func (m *model) trigger(l *ledger.Ledger, a api.Ack) (uint64, int) {
	if a.Spans[0].Lo < l.Low() {
		return 0, api.WStale
	}
	for _, s := range l.All() {
		if in(a.Spans, s.Pn) && s.State != api.Skip && !s.Used && s.Nonce == a.Trigger {
			return s.Pn, api.Fine
		}
	}
	return 0, api.WTrigger
}

// fault tells why the proof is wrong, and the number that cannot have been received.
func (m *model) fault(l *ledger.Ledger, a api.Ack) (int, uint64) {
	for _, s := range a.Spans {
		if s.Hi >= l.Next() {
			return api.WAhead, max(s.Lo, l.Next())
		}
	}
	for _, s := range l.All() {
		if in(a.Spans, s.Pn) && s.State == api.Skip {
			return api.WSkip, s.Pn
		}
	}
	p := proven(l, a)
	if p.Xor != a.Xor {
		return api.WXor, 0
	}
	if p.Parity != a.Parity {
		return api.WParity, 0
	}
	return api.Fine, 0
}

// take tells what Take has to answer, and the number that is used up then, if any.
func (m *model) take(l *ledger.Ledger, b []byte, now uint64) (v api.Verdict, a api.Ack, used []uint64) {
	v.Kind = api.VDrop
	if len(m.evidences) > 0 || l == nil {
		m.counts.Late++
		v.Why = api.WDone
		return v, api.Ack{}, nil
	}
	a, e := ack.Decode(b)
	if e != api.OK {
		m.counts.Malformed++
		v.Why = api.WForm
		return v, api.Ack{}, nil
	}
	pn, why := m.trigger(l, a)
	if why != api.Fine {
		m.counts.Dropped++
		v.Why = why
		if m.ask(now) {
			m.counts.Challenges++
			v.Challenge = true
		}
		return v, api.Ack{}, nil
	}
	if why, ahead := m.fault(l, a); why != api.Fine {
		m.evidences = append(m.evidences, api.Evidence{At: now, Pn: ahead, Used: pn, Why: why, Ack: a})
		return api.Verdict{Kind: api.VAbort, Why: why, Pn: ahead}, a, []uint64{pn}
	}
	m.counts.Taken++
	return api.Verdict{Kind: api.VTake, Why: api.Fine, Pn: pn}, a, []uint64{pn}
}

// alike holds the counts and the evidence of g against the model's.
func alike(t *testing.T, g *Guard, m *model) {
	t.Helper()
	if c := g.Counts(); c != m.counts {
		t.Fatalf("the counts %+v, want %+v", c, m.counts)
	}
	var want api.Evidence
	if len(m.evidences) > 0 {
		want = m.evidences[0]
	}
	if e, ok := g.Evidence(); ok != (len(m.evidences) > 0) || !sameEvidence(e, want) {
		t.Fatalf("the evidence %+v, %v, want %+v", e, ok, want)
	}
}

// same lets g and the model take a frame, and holds all that can be seen of g and of the ledger against what has to be.
func same(t *testing.T, g *Guard, m *model, l *ledger.Ledger, b []byte, now uint64) api.Verdict {
	t.Helper()
	entries, room := l.All(), l.Room()
	v, a, used := m.take(l, b, now)
	for i, s := range entries {
		entries[i].Used = s.Used || slices.Contains(used, s.Pn)
	}
	given := slices.Clone(b)
	got, gota := g.Take(l, b, now)
	if got != v || !sameAck(gota, a) {
		t.Fatalf("Take of %v: %+v, %+v; want %+v, %+v", b, got, gota, v, a)
	}
	if !slices.Equal(b, given) {
		t.Fatalf("the frame %v has become %v", given, b)
	}
	if !slices.Equal(l.All(), entries) || l.Room() != room {
		t.Fatalf("behind %v the ledger is %+v, want %+v", b, l.All(), entries)
	}
	alike(t, g, m)
	return got
}

// takes holds the verdict of Take against kind, why and pn, and the acknowledgment against zero if the frame is dropped.
func takes(t *testing.T, g *Guard, l *ledger.Ledger, b []byte, now uint64, want api.Verdict) {
	t.Helper()
	v, a := g.Take(l, b, now)
	if v != want {
		t.Errorf("Take of %v at %d: %+v, want %+v", b, now, v, want)
	}
	if v.Kind == api.VDrop && !sameAck(a, api.Ack{}) {
		t.Errorf("Take of %v drops it and tells %+v", b, a)
	}
}

// counted holds the counts of g against want.
func counted(t *testing.T, g *Guard, want api.Counts) {
	t.Helper()
	if c := g.Counts(); c != want {
		t.Errorf("the counts %+v, want %+v", c, want)
	}
}

// dropped tells the verdict of a frame that is dropped.
func dropped(why int, challenge bool) api.Verdict {
	return api.Verdict{Kind: api.VDrop, Why: why, Challenge: challenge}
}

// malformed tells what is no encoding of an acknowledgment, beside what is cut off or goes on.
func malformed(t *testing.T) [][]byte {
	t.Helper()
	challenge, _ := ack.Challenge(7)
	b := frame(t, good(t))
	l := [][]byte{
		nil,
		{},
		{api.KAck},
		{api.KData},
		{3, 0},
		challenge,
		slices.Repeat([]byte{255}, 40),
		make([]byte, 40),
		append([]byte{api.KAck, 0, 0}, make([]byte, 17)...),
		append(slices.Clone(b), 0),
		append(slices.Clone(b), b...),
		append([]byte{api.KData}, b[1:]...),
		append([]byte{api.KChallenge}, b[1:]...),
		append(slices.Clone(b[:len(b)-1]), 2),
	}
	for n := range b {
		l = append(l, b[:n])
	}
	// The same claims, a number of them in two bytes; and a mark that is not claimed.
	tail := make([]byte, 17)
	l = append(l,
		append([]byte{api.KAck, 1, 0x40, 6, 0, 0}, tail...),
		append([]byte{api.KAck, 1, 6, 0, 1, 7, 0}, tail...),
	)
	return l
}

// frames tells one frame for each of the cases that Take tells apart, for made's ledger.
func frames(t *testing.T) [][]byte {
	t.Helper()
	ok := good(t)
	wrong := func(change func(a *api.Ack)) []byte {
		a := ok
		change(&a)
		return frame(t, a)
	}
	return [][]byte{
		{9},
		wrong(func(a *api.Ack) { a.Spans = row(1, 4, 6, 7) }),
		wrong(func(a *api.Ack) { a.Trigger = 104 }),
		wrong(func(a *api.Ack) { a.Spans = row(2, 4, 6, 9) }),
		wrong(func(a *api.Ack) { a.Spans = row(2, 7) }),
		wrong(func(a *api.Ack) { a.Xor ^= 1 }),
		wrong(func(a *api.Ack) { a.Parity = !a.Parity }),
		frame(t, ok),
	}
}

func TestP1601Example(t *testing.T) {
	g := New(1, 10)
	takes(t, g, made(t), nil, 0, dropped(api.WForm, false))
	takes(t, g, made(t), []byte{}, 0, dropped(api.WForm, false))
	takes(t, g, ledger.New(4, 9), nil, 0, dropped(api.WForm, false))
	counted(t, g, api.Counts{Malformed: 3})
}

// Without a ledger everything is late, whatever it is; behind that the guard goes on as if there had been nothing.
func TestP1601NoLedger(t *testing.T) {
	g := New(1, api.Top)
	late := uint64(0)
	for _, b := range append(frames(t), malformed(t)...) {
		takes(t, g, nil, b, api.Top-1, dropped(api.WDone, false))
		late++
		counted(t, g, api.Counts{Late: late})
	}
	if _, ok := g.Evidence(); ok {
		t.Error("there was no abort")
	}
	l := made(t)
	takes(t, g, l, frame(t, good(t)), 0, api.Verdict{Kind: api.VTake, Pn: 6})
	takes(t, g, l, frame(t, good(t)), 5, dropped(api.WTrigger, true))
	takes(t, g, l, frame(t, good(t)), api.Top-1, dropped(api.WTrigger, false))
	counted(t, g, api.Counts{Late: late, Taken: 1, Dropped: 2, Challenges: 1})
}

// What is malformed changes one count only and asks for no challenge.
func TestP1601Malformed(t *testing.T) {
	l := made(t)
	g := New(1, api.Top)
	entries := l.All()
	for i, b := range malformed(t) {
		takes(t, g, l, b, 50, dropped(api.WForm, false))
		counted(t, g, api.Counts{Malformed: uint64(i) + 1})
	}
	if _, ok := g.Evidence(); ok || !slices.Equal(l.All(), entries) {
		t.Error("more has changed than a count")
	}
	// The time of a malformed frame is not even the budget's.
	takes(t, g, l, frame(t, api.Ack{Spans: row(2, 2)}), 5, dropped(api.WTrigger, true))
	takes(t, g, l, frame(t, api.Ack{Spans: row(2, 2)}), api.Top-1, dropped(api.WTrigger, false))
}

// Without a trigger an acknowledgment is dropped, however wrong or right its proof is.
func TestP1601Dropped(t *testing.T) {
	for _, x := range []struct {
		a   api.Ack
		why int
	}{
		{api.Ack{Spans: row(0, 0), Trigger: 100}, api.WStale},
		{api.Ack{Spans: row(1, 1), Trigger: 101}, api.WStale},
		{api.Ack{Spans: row(1, 2), Trigger: 102}, api.WStale},
		{api.Ack{Spans: row(0, 0, 6, 7), Trigger: 106}, api.WStale},
		{api.Ack{Spans: row(0, api.MaxPn), Trigger: 106}, api.WStale},
		{api.Ack{Spans: row(1, 7), Trigger: 5}, api.WStale},
		{api.Ack{Spans: row(2, 2), Trigger: 103}, api.WTrigger},
		{api.Ack{Spans: row(2, 4, 7, 7), Trigger: 106}, api.WTrigger},
		{api.Ack{Spans: row(4, 4), Trigger: 104}, api.WTrigger},
		{api.Ack{Spans: row(3, 4), Trigger: 104}, api.WTrigger},
		{api.Ack{Spans: row(5, 5)}, api.WTrigger},
		{api.Ack{Spans: row(2, 7)}, api.WTrigger},
		{api.Ack{Spans: row(2, 7), Trigger: api.Top}, api.WTrigger},
		{api.Ack{Spans: row(6, 6), Trigger: 6}, api.WTrigger},
		{api.Ack{Spans: row(8, 8), Trigger: 108}, api.WTrigger},
		{api.Ack{Spans: row(8, 8)}, api.WTrigger},
		{api.Ack{Spans: row(8, api.MaxPn), Trigger: 106}, api.WTrigger},
		{api.Ack{Spans: row(api.MaxPn, api.MaxPn), Trigger: 102}, api.WTrigger},
		{api.Ack{Spans: row(3, 9), Trigger: 102}, api.WTrigger},
		{api.Ack{Spans: row(6, 7), Marked: row(6, 7), Trigger: 102}, api.WTrigger},
	} {
		for _, xor := range []uint64{0, proven(made(t), x.a).Xor} {
			for _, parity := range []bool{false, true} {
				x.a.Xor, x.a.Parity = xor, parity
				l := made(t)
				g, m := New(1, 10), modelOf(1, 10)
				if v := same(t, g, m, l, frame(t, x.a), 5); v != dropped(x.why, true) {
					t.Errorf("of %+v: %+v", x.a, v)
				}
				if v := same(t, g, m, l, frame(t, x.a), 14); v != dropped(x.why, false) {
					t.Errorf("again of %+v: %+v", x.a, v)
				}
				counted(t, g, api.Counts{Dropped: 2, Challenges: 1})
			}
		}
	}
}

// Where nothing was sent yet, nothing has a trigger.
func TestP1601NothingSent(t *testing.T) {
	l := ledger.New(4, 9)
	g, m := New(1, 10), modelOf(1, 10)
	for _, a := range []api.Ack{{Spans: row(0, 0)}, {Spans: row(0, api.MaxPn)}, {Spans: row(3, 3), Trigger: 103}} {
		if v := same(t, g, m, l, frame(t, a), 5); v.Why != api.WTrigger {
			t.Errorf("of %+v: %+v", a, v)
		}
	}
}

// A challenge is granted as the budget has it: to dropped acknowledgments only, and to each reason.
func TestP1601Challenges(t *testing.T) {
	stale, other := frame(t, api.Ack{Spans: row(0, 0)}), frame(t, api.Ack{Spans: row(2, 2)})
	l := made(t)
	g := New(2, 10)
	for _, x := range []struct {
		b    []byte
		now  uint64
		want api.Verdict
	}{
		{stale, 5, dropped(api.WStale, true)},
		{nil, 6, dropped(api.WForm, false)},
		{other, 9, dropped(api.WTrigger, true)},
		{stale, 14, dropped(api.WStale, false)},
		{other, 0, dropped(api.WTrigger, false)},
		{frame(t, good(t)), 15, api.Verdict{Kind: api.VTake, Pn: 6}},
		{nil, 15, dropped(api.WForm, false)},
		{other, 15, dropped(api.WTrigger, true)},
		{stale, 18, dropped(api.WStale, false)},
		{stale, 19, dropped(api.WStale, true)},
		{stale, 24, dropped(api.WStale, false)},
		{stale, 40, dropped(api.WStale, true)},
		// The time does not go back: this is the second challenge at 40.
		{stale, 30, dropped(api.WStale, true)},
		{stale, 49, dropped(api.WStale, false)},
		{stale, 50, dropped(api.WStale, true)},
		{stale, api.Top, dropped(api.WStale, true)},
		{stale, api.Top, dropped(api.WStale, true)},
		{stale, api.Top, dropped(api.WStale, false)},
	} {
		takes(t, g, l, x.b, x.now, x.want)
	}
	counted(t, g, api.Counts{Malformed: 2, Dropped: 15, Taken: 1, Challenges: 9})
}

// As many challenges are granted as the range of most allows.
func TestP1601Budget(t *testing.T) {
	b := frame(t, api.Ack{Spans: row(2, 2)})
	for _, x := range []struct{ most, want int }{{math.MinInt, 0}, {-1, 0}, {0, 0}, {1, 1}, {2, 2}, {64, 64}, {65, 64}, {math.MaxInt, 64}} {
		for _, every := range []uint64{1, 10, api.Top} {
			l := made(t)
			g := New(x.most, every)
			for n := range 70 {
				takes(t, g, l, b, 7, dropped(api.WTrigger, n < x.want))
			}
			counted(t, g, api.Counts{Dropped: 70, Challenges: uint64(x.want)})
		}
	}
	g := New(1, 0)
	for range 5 {
		takes(t, g, made(t), b, 7, dropped(api.WTrigger, true))
	}
}

// What has an unused nonce and the right proofs is taken; the nonce is used up, and the packet's state stays as it is.
func TestP1601Taken(t *testing.T) {
	for _, x := range []struct {
		spans, marked []api.Span
		trigger, pn   uint64
	}{
		{row(2, 2), nil, 102, 2},
		{row(3, 3), nil, 103, 3},
		{row(6, 6), nil, 106, 6},
		{row(7, 7), row(7, 7), 107, 7},
		{row(2, 4), row(3, 4), 102, 2},
		{row(2, 4), nil, 103, 3},
		{row(2, 4, 6, 7), nil, 107, 7},
		{row(2, 4, 6, 7), row(2, 4, 6, 7), 106, 6},
		{row(2, 2, 4, 4, 6, 6), row(4, 4), 106, 6},
	} {
		l := made(t)
		g, m := New(1, 10), modelOf(1, 10)
		a := proven(l, api.Ack{Spans: x.spans, Marked: x.marked, Trigger: x.trigger})
		before, _ := l.Get(x.pn)
		if v := same(t, g, m, l, frame(t, a), 5); v != (api.Verdict{Kind: api.VTake, Why: api.Fine, Pn: x.pn}) {
			t.Errorf("of %+v: %+v", a, v)
		}
		if s, _ := l.Get(x.pn); !s.Used || s.State != before.State {
			t.Errorf("of %+v: %+v", a, s)
		}
		counted(t, g, api.Counts{Taken: 1})
		// The same frame comes again.
		if v := same(t, g, m, l, frame(t, a), 5); v != dropped(api.WTrigger, true) {
			t.Errorf("again of %+v: %+v", a, v)
		}
		counted(t, g, api.Counts{Taken: 1, Dropped: 1, Challenges: 1})
	}
}

// Of packets with the same nonce each is good for one acknowledgment, the least number first.
func TestP1601SameNonces(t *testing.T) {
	l := ledger.New(8, 99)
	for pn := range uint64(6) {
		l.Send(api.Sent{Off: pn, Len: 1, Nonce: 9})
	}
	g, m := New(0, 0), modelOf(0, 0)
	b := frame(t, proven(l, api.Ack{Spans: row(1, 2, 4, 5), Trigger: 9}))
	for _, pn := range []uint64{1, 2, 4, 5} {
		if v := same(t, g, m, l, b, 5); v != (api.Verdict{Kind: api.VTake, Pn: pn}) {
			t.Errorf("instead of %d: %+v", pn, v)
		}
	}
	if v := same(t, g, m, l, b, 5); v != dropped(api.WTrigger, false) {
		t.Errorf("of used nonces: %+v", v)
	}
}

// A trigger with a wrong proof aborts, for the first reason that there is; the nonce is used up even so.
func TestP1601Abort(t *testing.T) {
	for _, x := range []struct {
		spans, marked []api.Span
		trigger       uint64
		xor           uint64 // what the exclusive or is changed by
		flip          bool
		why           int
		pn, used      uint64
	}{
		{row(6, 8), nil, 106, 0, false, api.WAhead, 8, 6},
		{row(7, api.MaxPn), nil, 107, 0, false, api.WAhead, 8, 7},
		{row(2, 2, 11, 12, 20, 20), nil, 102, 0, false, api.WAhead, 11, 2},
		{row(2, 9), row(2, 9), 103, 1, true, api.WAhead, 8, 3},
		{row(4, 6), nil, 106, 0, false, api.WSkip, 5, 6},
		{row(2, 2, 5, 5), nil, 102, 0, false, api.WSkip, 5, 2},
		{row(2, 7), row(5, 5), 103, 1, true, api.WSkip, 5, 3},
		{row(2, 4), nil, 102, 1, false, api.WXor, 0, 2},
		{row(2, 4), row(3, 3), 103, 1 << 63, true, api.WXor, 0, 3},
		{row(7, 7), nil, 107, api.Top, false, api.WXor, 0, 7},
		{row(7, 7), nil, 107, 0, true, api.WParity, 0, 7},
		{row(2, 4), row(2, 4), 103, 0, true, api.WParity, 0, 3},
		{row(6, 7), row(7, 7), 106, 0, true, api.WParity, 0, 6},
	} {
		for _, now := range []uint64{0, 1, 77, api.Top} {
			l := made(t)
			g, m := New(9, 10), modelOf(9, 10)
			a := proven(l, api.Ack{Spans: x.spans, Marked: x.marked, Trigger: x.trigger})
			a.Xor ^= x.xor
			a.Parity = a.Parity != x.flip
			if v := same(t, g, m, l, frame(t, a), now); v != (api.Verdict{Kind: api.VAbort, Why: x.why, Pn: x.pn}) {
				t.Errorf("of %+v: %+v", a, v)
			}
			want := api.Evidence{At: now, Pn: x.pn, Used: x.used, Why: x.why, Ack: a}
			if e, ok := g.Evidence(); !ok || !sameEvidence(e, want) {
				t.Errorf("of %+v: the evidence %+v, %v", a, e, ok)
			}
			if s, _ := l.Get(x.used); !s.Used {
				t.Errorf("of %+v: the nonce can be used again", a)
			}
			counted(t, g, api.Counts{})
		}
	}
}

// Behind an abort everything is late: with this ledger, another one or none, and whatever it is.
func TestP1601Late(t *testing.T) {
	for _, abort := range frames(t)[3:7] {
		l := made(t)
		g, m := New(9, 10), modelOf(9, 10)
		if v := same(t, g, m, l, abort, 7); v.Kind != api.VAbort {
			t.Fatalf("no abort: %+v", v)
		}
		late := uint64(0)
		for _, b := range append(frames(t), malformed(t)...) {
			for _, x := range []*ledger.Ledger{l, made(t), nil} {
				if v := same(t, g, m, x, b, 8+late); v != dropped(api.WDone, false) {
					t.Errorf("of %v: %+v", b, v)
				}
				late++
				counted(t, g, api.Counts{Late: late})
			}
		}
	}
}

// small tells a ledger that keeps 1 to 4, of which code makes 1 to 3 unused, used or skipped; nonces and coins recur.
func small(t *testing.T, code int) *ledger.Ledger {
	t.Helper()
	l := ledger.New(4, 9)
	nonces := []uint64{1, 1, 2, 0, 1}
	for pn := range uint64(5) {
		if pn == 4 {
			l.Settle(0, api.Acked)
		}
		kind := code % 3
		if pn == 0 || pn == 4 {
			kind = 0
		} else {
			code /= 3
		}
		if kind == 2 {
			l.Skip()
			continue
		}
		l.Send(api.Sent{Off: pn, Len: 1, Nonce: nonces[pn], Coin: pn >= 2})
		if kind == 1 {
			l.Use(pn)
		}
	}
	if l.Low() != 1 || l.Next() != 5 {
		t.Fatal("the ledger keeps", l.Low(), l.Next())
	}
	return l
}

// All claims of the numbers 0 to 5 with all marks, some triggers, and right and wrong proofs, for all small ledgers.
func TestP1601Exact(t *testing.T) {
	seen := map[api.Verdict]int{}
	for code := range 27 {
		origin := small(t, code)
		for claim := 1; claim < 64; claim++ {
			for mark := claim; mark >= 0; mark-- {
				if mark&^claim != 0 {
					continue
				}
				for proof := range 12 {
					a := proven(origin, api.Ack{Spans: spansOf(claim), Marked: spansOf(mark), Trigger: uint64(proof % 3)})
					a.Xor ^= uint64(proof / 3 % 2)
					a.Parity = a.Parity != (proof >= 6)
					v := same(t, New(1, 10), modelOf(1, 10), origin.Fork(), frame(t, a), 5)
					seen[v]++
				}
			}
		}
	}
	for _, v := range []api.Verdict{
		{Kind: api.VDrop, Why: api.WStale, Challenge: true},
		{Kind: api.VDrop, Why: api.WTrigger, Challenge: true},
		{Kind: api.VTake, Pn: 1},
		{Kind: api.VTake, Pn: 2},
		{Kind: api.VTake, Pn: 3},
		{Kind: api.VTake, Pn: 4},
		{Kind: api.VAbort, Why: api.WAhead, Pn: 5},
		{Kind: api.VAbort, Why: api.WSkip, Pn: 1},
		{Kind: api.VAbort, Why: api.WSkip, Pn: 2},
		{Kind: api.VAbort, Why: api.WSkip, Pn: 3},
		{Kind: api.VAbort, Why: api.WXor},
		{Kind: api.VAbort, Why: api.WParity},
	} {
		if seen[v] < 20 {
			t.Errorf("%d times %+v", seen[v], v)
		}
	}
	if len(seen) != 12 {
		t.Error("the verdicts", seen)
	}
}

// step changes a ledger as a sender does.
func step(r *rand.Rand, l *ledger.Ledger) {
	if l.Room() == 0 || r.Intn(3) == 0 {
		l.Settle(l.Least(), []int{api.Acked, api.Lost}[r.Intn(2)])
	}
	if r.Intn(6) == 0 {
		l.Skip()
		return
	}
	l.Send(api.Sent{Off: 1, Len: 1 + uint64(r.Intn(9)), Nonce: uint64(r.Intn(8)), At: 3, Coin: r.Intn(2) == 0})
}

// drawn tells a frame: seldom one that is malformed, often one that is honest, and else one with something wrong.
func drawn(t *testing.T, r *rand.Rand, l *ledger.Ledger) []byte {
	var spans, marked []api.Span
	low, next := l.Low(), l.Next()
	lie := r.Intn(40)
	switch {
	case lie == 39 && low > 0:
		low--
	case lie == 38:
		next++
	}
	for pn := low; pn < next; pn++ {
		s, ok := l.Get(pn)
		if r.Intn(3) == 0 || ok && s.State == api.Skip && lie != 37 {
			continue
		}
		if n := len(spans); n > 0 && spans[n-1].Hi+1 == pn {
			spans[n-1].Hi = pn
		} else if n < api.MaxSpans {
			spans = append(spans, api.Span{Lo: pn, Hi: pn})
		}
		if n := len(marked); r.Intn(5) == 0 && (n == 0 || marked[n-1].Hi+1 < pn) {
			marked = append(marked, api.Span{Lo: pn, Hi: pn})
		}
	}
	if len(spans) == 0 || lie == 36 {
		return []byte{api.KAck, byte(r.Intn(3))}
	}
	a := proven(l, api.Ack{Spans: spans, Marked: marked, Trigger: uint64(r.Intn(8))})
	if lie == 35 {
		a.Xor ^= 1 << r.Intn(64)
	}
	a.Parity = a.Parity != (lie == 34)
	return frame(t, a)
}

// play is a guard with its model and its ledger.
type play struct {
	g *Guard
	m *model
	l *ledger.Ledger
}

// Long random runs with forks, in which guards abort for each reason.
func TestP1601Drawn(t *testing.T) {
	r := rand.New(rand.NewSource(16))
	seen := map[api.Verdict]int{}
	for range 400 {
		most, every := r.Intn(5)-1, uint64(r.Intn(20))
		plays := []play{{New(most, every), modelOf(most, every), ledger.New(4+r.Intn(20), 9999)}}
		now := []uint64{0, 1 << 63, api.Top - 100}[r.Intn(3)]
		for range 150 {
			p := plays[r.Intn(len(plays))]
			if r.Intn(15) == 0 && len(plays) < 6 {
				plays = append(plays, play{p.g.Fork(), p.m.fork(), p.l.Fork()})
			}
			if r.Intn(2) == 0 {
				step(r, p.l)
			}
			now += min(api.Top-now, uint64(r.Intn(4)))
			at := now
			if r.Intn(2) == 0 {
				at -= min(now, uint64(r.Intn(10)))
			}
			v := same(t, p.g, p.m, p.l, drawn(t, r, p.l), at)
			v.Pn = 0
			seen[v]++
		}
		for _, p := range plays {
			alike(t, p.g, p.m)
		}
	}
	for _, v := range []api.Verdict{
		dropped(api.WForm, false),
		dropped(api.WStale, false), dropped(api.WStale, true),
		dropped(api.WTrigger, false), dropped(api.WTrigger, true),
		dropped(api.WDone, false),
		{Kind: api.VTake},
		{Kind: api.VAbort, Why: api.WAhead},
		{Kind: api.VAbort, Why: api.WSkip},
		{Kind: api.VAbort, Why: api.WXor},
		{Kind: api.VAbort, Why: api.WParity},
	} {
		if seen[v] < 10 {
			t.Errorf("%d times %+v", seen[v], v)
		}
	}
}

func TestP1602AtFirst(t *testing.T) {
	for _, most := range []int{-1, 0, 3, 99} {
		g := New(most, 10)
		if g == nil {
			t.Fatal("no guard")
		}
		counted(t, g, api.Counts{})
		if e, ok := g.Evidence(); ok || !sameEvidence(e, api.Evidence{}) {
			t.Errorf("the evidence %+v, %v", e, ok)
		}
	}
}

// Each case has its own count, and an abort none.
func TestP1602Counts(t *testing.T) {
	l := made(t)
	g := New(1, 10)
	sent := frames(t)
	g.Take(nil, sent[0], 1)
	counted(t, g, api.Counts{Late: 1})
	g.Take(l, sent[0], 1)
	g.Take(l, sent[0], 1)
	counted(t, g, api.Counts{Late: 1, Malformed: 2})
	g.Take(l, sent[1], 1)
	g.Take(l, sent[2], 1)
	g.Take(l, sent[1], 1)
	counted(t, g, api.Counts{Late: 1, Malformed: 2, Dropped: 3, Challenges: 1})
	g.Take(l, sent[7], 1)
	counted(t, g, api.Counts{Late: 1, Malformed: 2, Dropped: 3, Challenges: 1, Taken: 1})
	g.Take(l, frame(t, api.Ack{Spans: row(7, 7), Trigger: 107}), 1)
	counted(t, g, api.Counts{Late: 1, Malformed: 2, Dropped: 3, Challenges: 1, Taken: 1})
	g.Take(l, sent[7], 1)
	counted(t, g, api.Counts{Late: 2, Malformed: 2, Dropped: 3, Challenges: 1, Taken: 1})
}

// Evidence whose every number is 0 is evidence.
func TestP1602EvidenceOfZeros(t *testing.T) {
	l := ledger.New(4, 9)
	l.Send(api.Sent{Len: 1})
	g := New(0, 0)
	a := api.Ack{Spans: row(0, 0), Parity: true}
	takes(t, g, l, frame(t, a), 0, api.Verdict{Kind: api.VAbort, Why: api.WParity})
	if e, ok := g.Evidence(); !ok || !sameEvidence(e, api.Evidence{Why: api.WParity, Ack: a}) {
		t.Errorf("the evidence %+v, %v", e, ok)
	}
	takes(t, g, l, nil, 0, dropped(api.WDone, false))
}

// At is the time that was given, even if an earlier one was greater.
func TestP1602EvidenceTimeGoesBack(t *testing.T) {
	l := made(t)
	g := New(1, 10)
	takes(t, g, l, frame(t, api.Ack{Spans: row(2, 2)}), 500, dropped(api.WTrigger, true))
	takes(t, g, l, frames(t)[5], 20, api.Verdict{Kind: api.VAbort, Why: api.WXor})
	if e, ok := g.Evidence(); !ok || e.At != 20 {
		t.Errorf("the evidence %+v, %v", e, ok)
	}
}

// scribble overwrites what an acknowledgment points to, the spare room included.
func scribble(a api.Ack) {
	for _, l := range [][]api.Span{a.Spans[:cap(a.Spans)], a.Marked[:cap(a.Marked)]} {
		for i := range l {
			l[i] = api.Span{Lo: 9999, Hi: 9999}
		}
	}
}

// Nothing that is handed in or out can be changed from outside.
func TestP1602Memory(t *testing.T) {
	l := made(t)
	g := New(1, 10)
	want := proven(l, api.Ack{Spans: row(2, 4, 6, 7), Marked: row(3, 3, 6, 6), Trigger: 106})
	want.Parity = !want.Parity
	b := frame(t, want)
	spare := append(make([]byte, 0, 200), b...)
	for i := range 50 {
		spare = append(spare, byte(i))
	}
	v, a := g.Take(l, spare[:len(b)], 5)
	if v.Kind != api.VAbort || !sameAck(a, want) {
		t.Fatalf("%+v, %+v", v, a)
	}
	for i := range 50 {
		if spare[len(b)+i] != byte(i) {
			t.Error("the spare room of the frame has changed")
		}
	}
	clear(spare)
	f := g.Fork()
	e, _ := g.Evidence()
	if !sameAck(a, want) || !sameAck(e.Ack, want) {
		t.Error("the frame is kept")
	}
	scribble(a)
	if !sameAck(e.Ack, want) {
		t.Error("the evidence shares memory with what Take returned")
	}
	scribble(e.Ack)
	fe, _ := f.Evidence()
	if !sameAck(fe.Ack, want) {
		t.Error("the fork shares memory with what was returned")
	}
	scribble(fe.Ack)
	for _, x := range []*Guard{g, f, g.Fork(), f.Fork()} {
		if e, ok := x.Evidence(); !ok || !sameAck(e.Ack, want) {
			t.Errorf("the evidence has become %+v", e)
		}
	}
}

// A fork has the counts, the budget and the abort of its origin, and neither moves the other.
func TestP1602Fork(t *testing.T) {
	stale := frame(t, api.Ack{Spans: row(0, 0)})
	l := made(t)
	g := New(2, 10)
	g.Take(nil, nil, 5)
	g.Take(l, nil, 5)
	g.Take(l, stale, 5)
	g.Take(l, frame(t, good(t)), 5)
	start := api.Counts{Late: 1, Malformed: 1, Dropped: 1, Challenges: 1, Taken: 1}
	f := g.Fork()
	if f == nil || f == g {
		t.Fatal("no guard of its own")
	}
	counted(t, f, start)
	if _, ok := f.Evidence(); ok {
		t.Error("a fork aborts by itself")
	}
	// Both have one challenge left until 15.
	takes(t, f, l, stale, 6, dropped(api.WStale, true))
	takes(t, f, l, stale, 14, dropped(api.WStale, false))
	counted(t, g, start)
	takes(t, g, l, stale, 13, dropped(api.WStale, true))
	takes(t, g, l, stale, 14, dropped(api.WStale, false))
	takes(t, f, l, stale, 15, dropped(api.WStale, true))
	takes(t, f, l, stale, 16, dropped(api.WStale, true))
	takes(t, g, l, stale, 15, dropped(api.WStale, true))
	takes(t, g, l, stale, 16, dropped(api.WStale, false))
	// One aborts, the other one goes on.
	wrong := frame(t, api.Ack{Spans: row(7, 7), Trigger: 107})
	takes(t, f, l.Fork(), wrong, 50, api.Verdict{Kind: api.VAbort, Why: api.WXor})
	takes(t, f, l, nil, 51, dropped(api.WDone, false))
	takes(t, g, l, nil, 51, dropped(api.WForm, false))
	if _, ok := g.Evidence(); ok {
		t.Error("the abort of a fork is its origin's")
	}
	// Behind that, the other one aborts with evidence of its own.
	takes(t, g, l.Fork(), frame(t, api.Ack{Spans: row(7, 9), Trigger: 107}), 60, api.Verdict{Kind: api.VAbort, Why: api.WAhead, Pn: 8})
	e, _ := g.Evidence()
	fe, _ := f.Evidence()
	if e.At != 60 || e.Why != api.WAhead || e.Pn != 8 || e.Used != 7 || fe.At != 50 || fe.Why != api.WXor || fe.Pn != 0 || fe.Used != 7 {
		t.Errorf("the evidence %+v and %+v", e, fe)
	}
	counted(t, g, api.Counts{Late: 1, Malformed: 2, Dropped: 5, Challenges: 3, Taken: 1})
	counted(t, f, api.Counts{Late: 2, Malformed: 1, Dropped: 5, Challenges: 4, Taken: 1})
}

// A fork of a guard that has aborted has aborted, too, with the same evidence.
func TestP1602ForkOfAborted(t *testing.T) {
	for _, abort := range frames(t)[3:7] {
		g, m := New(9, 10), modelOf(9, 10)
		same(t, g, m, made(t), abort, 7)
		f, fm := g.Fork(), m.fork()
		alike(t, f, fm)
		for _, b := range frames(t) {
			same(t, f, fm, made(t), b, 8)
		}
		alike(t, g, m)
		ff, ffm := f.Fork(), fm.fork()
		for _, b := range frames(t) {
			same(t, g, m, made(t), b, 9)
			same(t, ff, ffm, made(t), b, 9)
		}
		alike(t, f, fm)
	}
}

func TestP1602Nil(t *testing.T) {
	var g *Guard
	l := made(t)
	entries := l.All()
	for _, b := range append(frames(t), malformed(t)...) {
		for _, x := range []*ledger.Ledger{l, nil} {
			takes(t, g, x, b, 5, dropped(api.WDone, false))
		}
	}
	counted(t, g, api.Counts{})
	if e, ok := g.Evidence(); ok || !sameEvidence(e, api.Evidence{}) {
		t.Errorf("the evidence %+v, %v", e, ok)
	}
	if g.Fork() != nil || !slices.Equal(l.All(), entries) {
		t.Error("nil does something")
	}
}

// No object panics, even one that New did not make.
func TestP1602Zero(t *testing.T) {
	for i, b := range frames(t) {
		g := &Guard{}
		v, _ := g.Fork().Take(made(t), b, 5)
		w, _ := g.Take(made(t), b, 5)
		x, _ := New(0, 0).Take(&ledger.Ledger{}, b, 5)
		if v != w || x.Kind != api.VDrop {
			t.Errorf("the frame %d: %+v, %+v, %+v", i, v, w, x)
		}
	}
}

// Frames that are dropped change the counts only: a guard and a ledger that never saw them do the same as those that did.
func TestP1603DropsChangeCountsOnly(t *testing.T) {
	r := rand.New(rand.NewSource(1603))
	seen := map[int]int{}
	for range 400 {
		most := r.Intn(4)
		noisy, quiet := New(most, 10), New(most, 10)
		l, k := ledger.New(12, 9999), ledger.New(12, 9999)
		for at := range uint64(100) {
			if r.Intn(2) == 0 {
				seed := r.Int63()
				step(rand.New(rand.NewSource(seed)), l)
				step(rand.New(rand.NewSource(seed)), k)
			}
			b := drawn(t, r, l)
			v, a := noisy.Take(l, b, at)
			seen[v.Kind]++
			if v.Kind != api.VDrop {
				if w, c := quiet.Take(k, b, at); w != v || !sameAck(a, c) {
					t.Fatalf("%+v, but %+v where nothing was dropped", v, w)
				}
			}
			e, ok := noisy.Evidence()
			if f, also := quiet.Evidence(); also != ok || !sameEvidence(e, f) {
				t.Fatalf("%+v, but %+v where nothing was dropped", e, f)
			}
			if !slices.Equal(l.All(), k.All()) {
				t.Fatalf("%+v, but %+v where nothing was dropped", l.All(), k.All())
			}
			if noisy.Counts().Taken != quiet.Counts().Taken {
				t.Fatal("the counts", noisy.Counts(), quiet.Counts())
			}
		}
		if c := quiet.Counts(); c != (api.Counts{Taken: c.Taken}) {
			t.Fatalf("nothing was dropped, but %+v", c)
		}
	}
	if seen[api.VDrop] < 1000 || seen[api.VTake] < 1000 || seen[api.VAbort] < 100 {
		t.Error("the kinds of verdicts", seen)
	}
}

// The first abort leaves evidence; what would abort again leaves none, in the guard or in its forks.
func TestP1603OneEvidence(t *testing.T) {
	aborts := frames(t)[3:7]
	for i := range aborts {
		g := New(1, 10)
		takes(t, g, made(t), aborts[i], 7, api.Verdict{Kind: api.VAbort, Why: api.WAhead + i, Pn: []uint64{8, 5, 0, 0}[i]})
		want, ok := g.Evidence()
		if !ok || want.Why != api.WAhead+i {
			t.Fatalf("the evidence %+v, %v", want, ok)
		}
		for n := range 20 {
			g.Take(made(t), aborts[n%4], 8)
			if n%5 == 0 {
				g = g.Fork()
			}
			if e, ok := g.Evidence(); !ok || !sameEvidence(e, want) {
				t.Fatalf("the evidence %+v, %v, want %+v", e, ok, want)
			}
		}
		counted(t, g, api.Counts{Late: 20})
	}
}

// An aborted guard keeps the first of two claims for evidence, even if they come to its parts.
func TestP1603KeepsFirst(t *testing.T) {
	g := New(1, 10)
	first := api.Evidence{At: 1, Why: api.WXor}
	g.keep(first)
	g.keep(api.Evidence{At: 2, Why: api.WParity})
	if e, ok := g.Evidence(); !ok || !sameEvidence(e, first) {
		t.Errorf("the evidence %+v, %v", e, ok)
	}
}

// However long it is sent frames without a trigger, no interval of every microseconds holds more than most challenges, and nothing aborts.
func TestP1603Flood(t *testing.T) {
	r := rand.New(rand.NewSource(160316))
	for range 50 {
		most, every := 1+r.Intn(6), uint64(1+r.Intn(30))
		l := made(t)
		g := New(most, every)
		var times []uint64
		for at := range uint64(400) {
			for range r.Intn(4) {
				a := api.Ack{Spans: row(2, 2+uint64(r.Intn(9))), Trigger: 110 + uint64(r.Intn(50)), Xor: r.Uint64()}
				v, _ := g.Take(l, frame(t, a), at)
				if v.Kind != api.VDrop {
					t.Fatalf("of %+v: %+v", a, v)
				}
				if v.Challenge {
					times = append(times, at)
				}
			}
		}
		for i := most; i < len(times); i++ {
			if times[i]-times[i-most] < every {
				t.Fatalf("most %d, every %d: challenges at %d", most, every, times)
			}
		}
		if c := g.Counts(); c.Challenges != uint64(len(times)) || len(times) < most {
			t.Fatalf("%d challenges, counted %+v", len(times), c)
		}
	}
}
