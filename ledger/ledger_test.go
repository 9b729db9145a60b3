package ledger

import (
	"maps"
	"math"
	"math/rand"
	"reflect"
	"slices"
	"testing"

	"splittally/api"
)

// model is a ledger told in the plainest way: everything that was ever sent, in a map, and every question answered by going through it.
type model struct {
	ring  uint64
	limit uint64
	next  uint64
	sent  map[uint64]api.Sent
}

func newModel(ring, limit uint64) *model {
	return &model{ring: ring, limit: limit, sent: map[uint64]api.Sent{}}
}

func (m *model) low() uint64 {
	if m.next < m.ring {
		return 0
	}
	return m.next - m.ring
}

// flying tells the numbers that fly, of all that ever were, kept or not.
func (m *model) flying() []uint64 {
	var l []uint64
	for pn, s := range m.sent {
		if s.State == api.Flying {
			l = append(l, pn)
		}
	}
	slices.Sort(l)
	return l
}

func (m *model) least() uint64 {
	if l := m.flying(); len(l) > 0 {
		return l[0]
	}
	return m.next
}

func (m *model) room() int { return int(m.ring) - int(m.next-m.least()) }

func (m *model) flight() uint64 {
	sum := uint64(0)
	for _, pn := range m.flying() {
		sum += m.sent[pn].Len
	}
	return sum
}

func (m *model) get(pn uint64) (api.Sent, bool) {
	if pn < m.low() || pn >= m.next {
		return api.Sent{}, false
	}
	return m.sent[pn], true
}

func (m *model) all() []api.Sent {
	var l []api.Sent
	for pn := m.low(); pn < m.next; pn++ {
		l = append(l, m.sent[pn])
	}
	return l
}

func (m *model) give(s api.Sent) (uint64, api.Errno) {
	if m.next > m.limit {
		return 0, api.ErrPn
	}
	if m.room() == 0 {
		return 0, api.ErrBlock
	}
	s.Pn = m.next
	m.sent[s.Pn] = s
	m.next++
	return s.Pn, api.OK
}

func (m *model) send(s api.Sent) (uint64, api.Errno) {
	if s.Len == 0 || s.Len > 1500 || s.Off > 1<<62-1 {
		return 0, api.ErrArg
	}
	s.State, s.Used = api.Flying, false
	return m.give(s)
}

func (m *model) skip() (uint64, api.Errno) { return m.give(api.Sent{State: api.Skip}) }

func (m *model) use(pn uint64) bool {
	s, ok := m.get(pn)
	if !ok || s.Used || s.State == api.Skip {
		return false
	}
	s.Used = true
	m.sent[pn] = s
	return true
}

func (m *model) settle(pn uint64, state int) bool {
	s, ok := m.get(pn)
	may := map[[2]int]bool{{api.Flying, api.Acked}: true, {api.Lost, api.Acked}: true, {api.Flying, api.Lost}: true}
	if !ok || !may[[2]int{s.State, state}] {
		return false
	}
	s.State = state
	m.sent[pn] = s
	return true
}

func (m *model) fork() *model {
	f := *m
	f.sent = maps.Clone(m.sent)
	return &f
}

// packet tells a valid packet that differs from those of other n in every field.
func packet(n uint64) api.Sent {
	return api.Sent{Off: 3 + 10*n, Len: 1 + n%api.MaxBody, Nonce: ^n, At: 7 * n, Coin: n%2 == 0}
}

// same holds all that l tells against m, numbers that are not kept among it.
func same(t *testing.T, l *Ledger, m *model) {
	t.Helper()
	if l.Low() != m.low() || l.Next() != m.next || l.Least() != m.least() || l.Room() != m.room() || l.Flight() != m.flight() {
		t.Fatalf("low %d, next %d, least %d, room %d, flight %d; want %d, %d, %d, %d, %d",
			l.Low(), l.Next(), l.Least(), l.Room(), l.Flight(), m.low(), m.next, m.least(), m.room(), m.flight())
	}
	if got, want := l.All(), m.all(); !slices.Equal(got, want) {
		t.Fatalf("All: %+v; want %+v", got, want)
	}
	asked := []uint64{m.low() - 1, m.next, m.next + 1, m.next + m.ring, m.next - m.ring - 1, math.MaxInt64, 1 << 63, api.Top}
	for pn := m.low(); pn < m.next; pn++ {
		asked = append(asked, pn)
	}
	for _, pn := range asked {
		got, ok := l.Get(pn)
		want, may := m.get(pn)
		if got != want || ok != may {
			t.Fatalf("Get(%d): %+v, %v; want %+v, %v", pn, got, ok, want, may)
		}
	}
	for _, pn := range m.flying() {
		if s, ok := l.Get(pn); !ok || s.State != api.Flying {
			t.Fatalf("P1204: %d is flying and not kept", pn)
		}
	}
}

// gives calls Send with s, or Skip if skip is true, on both.
func gives(t *testing.T, l *Ledger, m *model, skip bool, s api.Sent) {
	t.Helper()
	got, e, want, f := uint64(0), api.OK, uint64(0), api.OK
	if skip {
		got, e = l.Skip()
		want, f = m.skip()
	} else {
		got, e = l.Send(s)
		want, f = m.send(s)
	}
	if got != want || e != f {
		t.Fatalf("skip %v, %+v: %d, %d; want %d, %d", skip, s, got, e, want, f)
	}
}

// settles calls Settle on both.
func settles(t *testing.T, l *Ledger, m *model, pn uint64, state int) {
	t.Helper()
	if got, want := l.Settle(pn, state), m.settle(pn, state); got != want {
		t.Fatalf("Settle(%d, %d): %v", pn, state, got)
	}
}

// uses calls Use on both.
func uses(t *testing.T, l *Ledger, m *model, pn uint64) {
	t.Helper()
	if got, want := l.Use(pn), m.use(pn); got != want {
		t.Fatalf("Use(%d): %v", pn, got)
	}
}

func TestP1201New(t *testing.T) {
	for _, x := range []struct{ ring, want int }{
		{math.MinInt, 4}, {-256, 4}, {-1, 4}, {0, 4}, {1, 4}, {3, 4}, {4, 4}, {5, 5}, {6, 6}, {100, 100}, {255, 255},
		{256, 256}, {257, 256}, {1 << 32, 256}, {1<<32 + 5, 256}, {math.MaxInt, 256},
	} {
		l := New(x.ring, 9)
		if l.Room() != x.want {
			t.Errorf("New(%d): room %d", x.ring, l.Room())
		}
		same(t, l, newModel(uint64(x.want), 9))
	}
}

// Rings of every length forget their numbers one by one.
func TestP1201Rings(t *testing.T) {
	for ring := 0; ring <= api.MaxRing+2; ring++ {
		kept := uint64(min(max(ring, 4), api.MaxRing))
		l := New(ring, api.MaxPn)
		for n := range 2*kept + 3 {
			if pn, e := l.Send(packet(n)); pn != n || e != api.OK {
				t.Fatalf("ring %d: Send: %d, %d", ring, pn, e)
			}
			if n+1 >= kept {
				l.Settle(n+1-kept, api.Acked)
			}
		}
		if l.Low() != kept+3 || l.Next() != 2*kept+3 || uint64(len(l.All())) != kept || l.Least() != kept+4 || l.Room() != 1 {
			t.Errorf("ring %d: low %d, next %d", ring, l.Low(), l.Next())
		}
	}
}

func TestP1201Limit(t *testing.T) {
	for _, limit := range []uint64{0, 1, 2, 5, 20} {
		for _, skip := range []bool{false, true} {
			l, m := New(4, limit), newModel(4, limit)
			for range limit + 3 {
				gives(t, l, m, skip, packet(1))
				settles(t, l, m, m.next-1, api.Lost)
				same(t, l, m)
			}
			if l.Next() != limit+1 {
				t.Errorf("limit %d, skip %v: next %d", limit, skip, l.Next())
			}
		}
	}
}

// at tells a ledger that has come as far as next, as if all numbers up to there had been skipped.
func at(ring int, limit, next uint64) *Ledger {
	l := New(ring, limit)
	l.next = next
	for pn := l.Low(); pn < next; pn++ {
		*l.entry(pn) = api.Sent{Pn: pn, State: api.Skip}
	}
	return l
}

func TestP1201GreatestLimit(t *testing.T) {
	for _, limit := range []uint64{api.MaxPn, api.MaxPn + 1, 1 << 63, api.Top} {
		for _, ring := range []int{4, 5, 256} {
			l := at(ring, limit, api.MaxPn-1)
			if pn, e := l.Send(packet(1)); pn != api.MaxPn-1 || e != api.OK {
				t.Errorf("limit %d: Send: %d, %d", limit, pn, e)
			}
			if pn, e := l.Skip(); pn != api.MaxPn || e != api.OK {
				t.Errorf("limit %d: Skip: %d, %d", limit, pn, e)
			}
			if pn, e := l.Send(packet(1)); pn != 0 || e != api.ErrPn {
				t.Errorf("limit %d: Send: %d, %d", limit, pn, e)
			}
			if pn, e := l.Skip(); pn != 0 || e != api.ErrPn {
				t.Errorf("limit %d: Skip: %d, %d", limit, pn, e)
			}
			if l.Next() != api.MaxPn+1 || l.Low() != api.MaxPn+1-uint64(ring) || l.Least() != api.MaxPn-1 || l.Room() != ring-2 {
				t.Errorf("limit %d: next %d, low %d, least %d, room %d", limit, l.Next(), l.Low(), l.Least(), l.Room())
			}
		}
	}
}

func TestP1201Send(t *testing.T) {
	for _, s := range []api.Sent{
		{Len: 1}, {Len: 1500}, {Len: 1, Off: api.MaxPn}, packet(8),
		{Pn: 77, Len: 9, Used: true, State: api.Lost}, {Pn: api.Top, Len: 9, State: api.Skip}, {Len: 9, State: -5},
		{Pn: 5, Off: 6, Len: 7, Nonce: api.Top, At: api.Top, Coin: true, Used: true, State: api.Acked},
	} {
		l := New(4, 9)
		l.Skip()
		if pn, e := l.Send(s); pn != 1 || e != api.OK {
			t.Errorf("%+v: %d, %d", s, pn, e)
		}
		want := s
		want.Pn, want.Used, want.State = 1, false, api.Flying
		if got, ok := l.Get(1); !ok || got != want {
			t.Errorf("%+v: kept %+v", s, got)
		}
	}
}

// bad tells packets that are not valid.
func bad() []api.Sent {
	return []api.Sent{
		{}, {Len: 1501}, {Len: 1<<32 + 1}, {Len: 1 << 63}, {Len: api.Top}, {Off: 5, State: api.Flying},
		{Len: 1, Off: api.MaxPn + 1}, {Len: 1500, Off: 1 << 63}, {Len: 1, Off: api.Top}, {Len: api.Top, Off: api.Top},
	}
}

func TestP1201Errors(t *testing.T) {
	free, full, done, both := New(4, 9), New(4, 9), New(4, 2), New(4, 3)
	for range 4 {
		full.Send(packet(1))
		done.Send(packet(1))
		both.Send(packet(1))
	}
	if free.Room() != 4 || full.Room() != 0 || done.Room() != 1 || both.Room() != 0 {
		t.Fatal("room")
	}
	for _, x := range []struct {
		name string
		l    *Ledger
		want api.Errno
	}{{"no room", full, api.ErrBlock}, {"no number", done, api.ErrPn}, {"neither", both, api.ErrPn}} {
		was := x.l.Fork()
		if pn, e := x.l.Send(packet(1)); pn != 0 || e != x.want {
			t.Errorf("%s: Send: %d, %d", x.name, pn, e)
		}
		if pn, e := x.l.Skip(); pn != 0 || e != x.want {
			t.Errorf("%s: Skip: %d, %d", x.name, pn, e)
		}
		if !reflect.DeepEqual(x.l, was) {
			t.Errorf("%s: an error changed the ledger", x.name)
		}
	}
	for _, l := range []*Ledger{free, full, done, both} {
		was := l.Fork()
		for _, s := range bad() {
			if pn, e := l.Send(s); pn != 0 || e != api.ErrArg {
				t.Errorf("%+v: %d, %d", s, pn, e)
			}
		}
		if !reflect.DeepEqual(l, was) {
			t.Error("ErrArg changed the ledger")
		}
	}
}

func TestP1201Skip(t *testing.T) {
	l := New(4, 99)
	for n := range uint64(20) {
		if pn, e := l.Skip(); pn != n || e != api.OK {
			t.Errorf("Skip: %d, %d", pn, e)
		}
		if got, ok := l.Get(n); !ok || got != (api.Sent{Pn: n, State: api.Skip}) {
			t.Errorf("kept %+v", got)
		}
		if l.Room() != 4 || l.Least() != n+1 || l.Flight() != 0 {
			t.Error("a skipped number flies")
		}
	}
	// A skipped number takes the place of a packet, and nothing of the packet stays.
	l = New(4, 99)
	for n := range uint64(4) {
		l.Send(packet(n + 1))
		l.Use(n)
		l.Settle(n, api.Acked)
	}
	l.Skip()
	if got, ok := l.Get(4); !ok || got != (api.Sent{Pn: 4, State: api.Skip}) {
		t.Errorf("kept %+v", got)
	}
	// A skipped number stands between a flying one and the end as any other does.
	l = New(4, 99)
	l.Send(packet(1))
	for want := 2; want >= 0; want-- {
		if _, e := l.Skip(); e != api.OK || l.Room() != want {
			t.Errorf("Skip: %d, room %d", e, l.Room())
		}
	}
	if _, e := l.Skip(); e != api.ErrBlock {
		t.Errorf("Skip without room: %d", e)
	}
}

func TestP1201Forgets(t *testing.T) {
	l, m := New(5, 99), newModel(5, 99)
	for n := range uint64(30) {
		gives(t, l, m, n%3 == 2, packet(n))
		uses(t, l, m, n)
		settles(t, l, m, n, []int{api.Flying, api.Lost}[n%2])
		settles(t, l, m, n, api.Acked)
		same(t, l, m)
	}
	for pn := range uint64(25) {
		if _, ok := l.Get(pn); ok || l.Use(pn) || l.Settle(pn, api.Acked) || l.Settle(pn, api.Lost) {
			t.Errorf("%d is kept", pn)
		}
	}
}

func TestP1202Example(t *testing.T) {
	if got := New(4, 9).Room(); got != 4 {
		t.Errorf("room %d", got)
	}
}

// The least flying number and the bytes in flight, for each set of flying numbers, each way of not flying and each place in the ring.
func TestP1202Flying(t *testing.T) {
	for ahead := range uint64(7) {
		for flying := range 1 << 6 {
			for _, other := range []int{api.Acked, api.Lost, api.Skip} {
				l, m := New(6, 99), newModel(6, 99)
				for range ahead {
					gives(t, l, m, true, api.Sent{})
				}
				for n := range uint64(6) {
					flies := flying>>n&1 == 1
					gives(t, l, m, !flies && other == api.Skip, packet(100+n))
					if !flies {
						settles(t, l, m, ahead+n, other)
					}
				}
				same(t, l, m)
			}
		}
	}
}

func TestP1202GreatestFlight(t *testing.T) {
	l := New(api.MaxRing, api.MaxPn)
	for range api.MaxRing {
		l.Send(api.Sent{Len: api.MaxBody})
	}
	if l.Flight() != api.MaxRing*api.MaxBody || l.Room() != 0 || l.Least() != 0 {
		t.Errorf("flight %d, room %d", l.Flight(), l.Room())
	}
}

func TestP1202AllIsNew(t *testing.T) {
	l := New(4, 99)
	if len(l.All()) != 0 {
		t.Error("All of a new ledger")
	}
	for n := range uint64(3) {
		l.Send(packet(n))
	}
	was := l.Fork()
	all := l.All()
	for i := range all {
		all[i] = api.Sent{State: api.Lost}
	}
	_ = append(all[:cap(all)], api.Sent{})
	got, _ := l.Get(1)
	got.State = api.Lost
	if !reflect.DeepEqual(l, was) {
		t.Error("what a ledger tells is its own memory")
	}
	old := l.All()
	l.Settle(1, api.Lost)
	if old[1].State != api.Flying {
		t.Error("All changes behind the call")
	}
}

func TestP1202Fork(t *testing.T) {
	l, m := New(4, 9), newModel(4, 9)
	same(t, l.Fork(), m)
	for n := range uint64(6) {
		gives(t, l, m, n == 2, packet(n))
		uses(t, l, m, n)
		settles(t, l, m, n, []int{api.Acked, api.Lost}[n%2])
	}
	f, g := l.Fork(), m.fork()
	same(t, f, g)
	for n := range uint64(5) {
		gives(t, f, g, n == 1, packet(50+n))
		settles(t, f, g, 5, api.Acked)
		same(t, l, m)
		same(t, f, g)
	}
	if f.Next() != 10 || l.Next() != 6 {
		t.Errorf("next %d, %d", f.Next(), l.Next())
	}
	f, g = l.Fork(), m.fork()
	gives(t, l, m, false, packet(9))
	uses(t, l, m, 6)
	settles(t, l, m, 3, api.Acked)
	same(t, l, m)
	same(t, f, g)
}

func TestP1202Nil(t *testing.T) {
	var l *Ledger
	if pn, e := l.Send(packet(1)); pn != 0 || e != api.ErrArg {
		t.Errorf("Send: %d, %d", pn, e)
	}
	if pn, e := l.Skip(); pn != 0 || e != api.ErrArg {
		t.Errorf("Skip: %d, %d", pn, e)
	}
	for _, pn := range []uint64{0, 1, api.MaxPn, api.Top} {
		if s, ok := l.Get(pn); s != (api.Sent{}) || ok || l.Use(pn) || l.Settle(pn, api.Acked) || l.Settle(pn, api.Lost) {
			t.Errorf("%d is kept", pn)
		}
	}
	if len(l.All()) != 0 || l.Low() != 0 || l.Next() != 0 || l.Least() != 0 || l.Room() != 0 || l.Flight() != 0 || l.Fork() != nil {
		t.Error("a nil ledger tells something")
	}
}

// A ledger that New did not make has no room, and nothing panics.
func TestP1202Zero(t *testing.T) {
	l := new(Ledger)
	if pn, e := l.Send(packet(1)); pn != 0 || e != api.ErrBlock {
		t.Errorf("Send: %d, %d", pn, e)
	}
	if pn, e := l.Skip(); pn != 0 || e != api.ErrBlock {
		t.Errorf("Skip: %d, %d", pn, e)
	}
	if _, ok := l.Get(0); ok || l.Use(0) || l.Settle(0, api.Lost) || l.Room() != 0 || len(l.All()) != 0 || len(l.Fork().All()) != 0 {
		t.Error("a zero ledger keeps something")
	}
}

// reach tells a ledger whose number 1 is in a state, and the like model.
func reach(state int) (*Ledger, *model) {
	l, m := New(4, 9), newModel(4, 9)
	l.Send(packet(7))
	m.send(packet(7))
	if state == api.Skip {
		l.Skip()
		m.skip()
	} else {
		l.Send(packet(8))
		m.send(packet(8))
		l.Settle(1, state)
		m.settle(1, state)
	}
	l.Send(packet(9))
	m.send(packet(9))
	return l, m
}

func TestP1203Settle(t *testing.T) {
	type step struct{ from, to int }
	for _, from := range []int{api.Flying, api.Acked, api.Lost, api.Skip} {
		for _, to := range []int{math.MinInt, -1, 0, api.Flying, api.Acked, api.Lost, api.Skip, 5, 1<<32 + api.Acked, math.MaxInt} {
			for _, used := range []bool{false, true} {
				l, m := reach(from)
				if used {
					uses(t, l, m, 1)
				}
				was, _ := l.Get(1)
				if was.State != from {
					t.Fatalf("state %d", was.State)
				}
				want := slices.Contains([]step{{api.Flying, api.Acked}, {api.Lost, api.Acked}, {api.Flying, api.Lost}}, step{from, to})
				if got := l.Settle(1, to); got != want {
					t.Errorf("from %d to %d: %v", from, to, got)
				}
				if want {
					was.State = to
				}
				if got, _ := l.Get(1); got != was {
					t.Errorf("from %d to %d: %+v", from, to, got)
				}
				m.sent[1] = was
				same(t, l, m)
			}
		}
	}
}

func TestP1203Use(t *testing.T) {
	for _, state := range []int{api.Flying, api.Acked, api.Lost} {
		l, m := reach(state)
		uses(t, l, m, 1)
		same(t, l, m)
		if s, _ := l.Get(1); !s.Used || s.State != state {
			t.Errorf("state %d: %+v", state, s)
		}
		if l.Use(1) {
			t.Errorf("state %d: used again", state)
		}
		// What was used stays used, whatever becomes of it.
		settles(t, l, m, 1, api.Lost)
		settles(t, l, m, 1, api.Acked)
		if l.Use(1) {
			t.Errorf("state %d: used again", state)
		}
		same(t, l, m)
	}
	l, m := reach(api.Skip)
	if l.Use(1) {
		t.Error("a skipped number is used")
	}
	same(t, l, m)
}

func TestP1203NotKept(t *testing.T) {
	l, m := New(4, 99), newModel(4, 99)
	for n := range uint64(9) {
		gives(t, l, m, false, packet(n))
		settles(t, l, m, n, api.Lost)
	}
	for _, pn := range []uint64{0, 1, 4, 9, 10, 13, 4 + 1<<32, 1<<63 + 8, api.Top - 3, api.Top} {
		if l.Use(pn) || l.Settle(pn, api.Acked) || l.Settle(pn, api.Lost) {
			t.Errorf("%d is kept", pn)
		}
		same(t, l, m)
	}
}

// Every row of six calls on a ring of 4 that has some numbers already: nothing that flies is forgotten.
func TestP1204Rows(t *testing.T) {
	var walk func(l *Ledger, m *model, left int)
	walk = func(l *Ledger, m *model, left int) {
		same(t, l, m)
		if left == 0 {
			return
		}
		for call := range 5 {
			f, g := l.Fork(), m.fork()
			switch call {
			case 0, 1:
				gives(t, f, g, call == 1, packet(m.next))
			case 2:
				settles(t, f, g, g.least(), api.Acked)
			case 3:
				settles(t, f, g, g.least(), api.Lost)
			default:
				settles(t, f, g, g.next-1, api.Acked)
			}
			walk(f, g, left-1)
		}
	}
	l, m := New(4, 6), newModel(4, 6)
	for range 3 {
		gives(t, l, m, false, packet(1))
	}
	walk(l, m, 6)
}

func TestP1204LongRuns(t *testing.T) {
	for seed := range int64(40) {
		r := rand.New(rand.NewSource(seed))
		ring := []uint64{4, 5, 8, 31, 256}[seed%5]
		limit := []uint64{700, api.MaxPn}[seed%2]
		l, m := New(int(ring), limit), newModel(ring, limit)
		for range 2500 {
			pn := m.low() + uint64(r.Intn(int(ring)+3)) - 1
			switch r.Intn(9) {
			case 0, 1, 2:
				gives(t, l, m, false, packet(uint64(r.Intn(4000))))
			case 3:
				gives(t, l, m, true, api.Sent{})
			case 4:
				gives(t, l, m, false, api.Sent{Off: r.Uint64(), Len: uint64(r.Intn(1700)), Used: true, State: r.Intn(6)})
			case 5:
				uses(t, l, m, pn)
			case 6:
				settles(t, l, m, pn, r.Intn(6))
			default:
				settles(t, l, m, m.least(), []int{api.Acked, api.Lost}[r.Intn(2)])
			}
			if l.Room() != m.room() || l.Flight() != m.flight() || l.Least() != m.least() {
				t.Fatalf("seed %d: room %d, flight %d, least %d", seed, l.Room(), l.Flight(), l.Least())
			}
		}
		same(t, l, m)
	}
}
