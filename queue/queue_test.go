package queue

import (
	"bytes"
	"fmt"
	"math"
	"math/rand"
	"slices"
	"testing"

	"splittally/api"
)

// What became of a byte of the model's stream.
const (
	unsent = iota
	flying
	owed
	acked
)

// model is a queue told in the plainest way: all bytes that were ever accepted, and what became of each.
type model struct {
	room uint64
	text []byte
	fate []int
}

// modelOf tells the model of New(room).
func modelOf(room int) *model {
	return &model{room: uint64(max(1, min(65536, room)))}
}

// first tells the first offset whose fate is one of the list, or the end.
func (m *model) first(fates ...int) uint64 {
	for i, f := range m.fate {
		if slices.Contains(fates, f) {
			return uint64(i)
		}
	}
	return uint64(len(m.fate))
}

func (m *model) base() uint64  { return m.first(unsent, flying, owed) }
func (m *model) fresh() uint64 { return m.first(unsent) }
func (m *model) end() uint64   { return uint64(len(m.text)) }

func (m *model) write(b []byte) int {
	n := 0
	for n < len(b) && m.end() < m.base()+m.room {
		m.text, m.fate = append(m.text, b[n]), append(m.fate, unsent)
		n++
	}
	return n
}

func (m *model) next(most int) (api.Piece, bool) {
	lo, want := m.first(owed), owed
	if lo == m.end() {
		lo, want = m.fresh(), unsent
	}
	p := api.Piece{Off: lo}
	for i := lo; i < m.end() && m.fate[i] == want && len(p.Body) < most; i++ {
		p.Body = append(p.Body, m.text[i])
	}
	if len(p.Body) == 0 {
		return api.Piece{}, false
	}
	return p, true
}

// among tells whether there are n bytes from off on, none of them at the offset end or behind it; the numbers may be any.
func among(off, n, end uint64) bool {
	return n >= 1 && n <= end && off <= end-n
}

// each gives every one of the n bytes from off on a new fate.
func (m *model) each(off, n uint64, next func(int) int) bool {
	for i := off; i < off+n; i++ {
		m.fate[i] = next(m.fate[i])
	}
	return true
}

func (m *model) sent(off, n uint64) bool {
	if !among(off, n, m.end()) || off > m.fresh() {
		return false
	}
	return m.each(off, n, func(f int) int {
		if f == acked {
			return acked
		}
		return flying
	})
}

func (m *model) acked(off, n uint64) bool {
	return among(off, n, m.fresh()) && m.each(off, n, func(int) int { return acked })
}

func (m *model) lost(off, n uint64) bool {
	return among(off, n, m.fresh()) && m.each(off, n, func(f int) int {
		if f == acked {
			return acked
		}
		return owed
	})
}

func (m *model) owed() []api.Span {
	var l []api.Span
	for i, f := range m.fate {
		n := uint64(i)
		switch {
		case f != owed:
		case i > 0 && m.fate[i-1] == owed:
			l[len(l)-1].Hi = n
		default:
			l = append(l, api.Span{Lo: n, Hi: n})
		}
	}
	return l
}

// fork tells an independent model in the same state.
func (m *model) fork() *model {
	return &model{room: m.room, text: slices.Clone(m.text), fate: slices.Clone(m.fate)}
}

// key tells the state of the model.
func (m *model) key() string { return fmt.Sprint(m.room, m.fate) }

// samePiece holds one answer of Next against another.
func samePiece(p api.Piece, ok bool, want api.Piece, wantOk bool) bool {
	return ok == wantOk && p.Off == want.Off && bytes.Equal(p.Body, want.Body)
}

// same holds all that q tells against m.
func same(t *testing.T, q *Queue, m *model, mosts ...int) {
	t.Helper()
	if q.Base() != m.base() || q.Fresh() != m.fresh() || q.End() != m.end() {
		t.Fatalf("fates %v: base %d, fresh %d, end %d; want %d, %d, %d", m.fate, q.Base(), q.Fresh(), q.End(), m.base(), m.fresh(), m.end())
	}
	if got, want := q.Owed(), m.owed(); !slices.Equal(got, want) {
		t.Fatalf("fates %v: owed %v; want %v", m.fate, got, want)
	}
	for _, most := range append(mosts, 0, 1, 3, math.MaxInt) {
		p, ok := q.Next(most)
		want, wantOk := m.next(most)
		if !samePiece(p, ok, want, wantOk) {
			t.Fatalf("fates %v: Next(%d) is %v, %v; want %v, %v", m.fate, most, p, ok, want, wantOk)
		}
	}
}

// Kinds of calls.
const (
	doWrite = iota
	doSent
	doAcked
	doLost
)

// call is a call that may change a queue.
type call struct {
	kind   int
	off, n uint64
	body   []byte
}

// both makes the call c at q and at m, and holds the answers and what they tell then against each other.
func both(t *testing.T, q *Queue, m *model, c call) bool {
	t.Helper()
	before := slices.Clone(m.fate)
	var got, want any
	switch c.kind {
	case doWrite:
		got, want = q.Write(c.body), m.write(c.body)
	case doSent:
		got, want = q.Sent(c.off, c.n), m.sent(c.off, c.n)
	case doAcked:
		got, want = q.Acked(c.off, c.n), m.acked(c.off, c.n)
	case doLost:
		got, want = q.Lost(c.off, c.n), m.lost(c.off, c.n)
	}
	if got != want {
		t.Fatalf("room %d, fates %v: the call %+v answers %v; want %v", m.room, before, c, got, want)
	}
	same(t, q, m)
	return got == true
}

// row tells spans of pairs.
func row(l ...uint64) []api.Span {
	var out []api.Span
	for i := 0; i+1 < len(l); i += 2 {
		out = append(out, api.Span{Lo: l[i], Hi: l[i+1]})
	}
	return out
}

// text tells n bytes of which neighbors differ, the first of them that of the offset off.
func text(off, n int) []byte {
	b := make([]byte, n)
	for i := range b {
		b[i] = byte((off + i) % 251)
	}
	return b
}

// holds tells whether q has these offsets and this row of owed ones.
func holds(t *testing.T, q *Queue, base, fresh, end uint64, owed ...uint64) {
	t.Helper()
	if q.Base() != base || q.Fresh() != fresh || q.End() != end || !slices.Equal(q.Owed(), row(owed...)) {
		t.Errorf("base %d, fresh %d, end %d, owed %v; want %d, %d, %d, %v", q.Base(), q.Fresh(), q.End(), q.Owed(), base, fresh, end, owed)
	}
}

// gives holds what q sends next against body from off on; an empty body stands for nothing.
func gives(t *testing.T, q *Queue, most int, off uint64, body string) {
	t.Helper()
	p, ok := q.Next(most)
	if !samePiece(p, ok, api.Piece{Off: off, Body: []byte(body)}, body != "") {
		t.Errorf("Next(%d): %d %q, %v; want %d %q", most, p.Off, p.Body, ok, off, body)
	}
}

func TestP2501Example(t *testing.T) {
	if got := New(2).Write([]byte("abc")); got != 2 {
		t.Errorf("Write of 3 bytes to New(2): %d", got)
	}
}

func TestP2501New(t *testing.T) {
	for _, room := range []int{math.MinInt, 0, 1, 5, math.MaxInt} {
		q := New(room)
		holds(t, q, 0, 0, 0)
		gives(t, q, 1, 0, "")
		gives(t, q, math.MaxInt, 0, "")
		if q.Sent(0, 1) || q.Acked(0, 1) || q.Lost(0, 1) {
			t.Error("an empty queue has bytes that were sent")
		}
	}
}

func TestP2501Room(t *testing.T) {
	for _, x := range []struct{ room, want int }{
		{math.MinInt, 1},
		{-1 << 32, 1},
		{-1, 1},
		{0, 1},
		{1, 1},
		{2, 2},
		{1500, 1500},
		{65535, 65535},
		{65536, 65536},
		{65537, 65536},
		{131072, 65536},
		{1<<32 + 5, 65536},
		{math.MaxInt, 65536},
	} {
		q, b := New(x.room), text(0, 70000)
		if got := q.Write(b); got != x.want || q.End() != uint64(x.want) {
			t.Errorf("room %d: %d bytes are accepted, want %d", x.room, got, x.want)
		}
		if got := q.Write(b); got != 0 {
			t.Errorf("room %d: %d bytes are accepted by a full queue", x.room, got)
		}
		if p, ok := q.Next(70000); !ok || p.Off != 0 || !bytes.Equal(p.Body, b[:x.want]) {
			t.Errorf("room %d: %d bytes from %d on, %v", x.room, len(p.Body), p.Off, ok)
		}
	}
}

func TestP2501Write(t *testing.T) {
	q := New(10)
	for _, x := range []struct {
		b    string
		want int
		end  uint64
	}{{"abc", 3, 3}, {"", 0, 3}, {"d", 1, 4}, {"efghi", 5, 9}, {"jklm", 1, 10}, {"n", 0, 10}, {"", 0, 10}} {
		if got := q.Write([]byte(x.b)); got != x.want || q.End() != x.end {
			t.Errorf("Write(%q): %d, end %d; want %d, %d", x.b, got, q.End(), x.want, x.end)
		}
	}
	if got := q.Write(nil); got != 0 {
		t.Errorf("Write(nil): %d", got)
	}
	gives(t, q, 99, 0, "abcdefghij")
}

// There is room again for what was acknowledged from Base on, be it sent, lost or not: only Base counts.
func TestP2501WriteAgain(t *testing.T) {
	q := New(4)
	q.Write([]byte("abcd"))
	q.Sent(0, 4)
	q.Lost(0, 1)
	q.Acked(1, 2)
	if got := q.Write([]byte("ef")); got != 0 {
		t.Errorf("%d bytes are accepted, though nothing from Base on is acknowledged", got)
	}
	q.Acked(0, 1)
	if got := q.Write([]byte("efgh")); got != 3 {
		t.Errorf("%d bytes are accepted behind an acknowledgment of 3", got)
	}
	holds(t, q, 3, 4, 7)
	gives(t, q, 9, 4, "efg")
	q.Lost(3, 1)
	gives(t, q, 9, 3, "d")
}

func TestP2501Next(t *testing.T) {
	q := New(20)
	q.Write([]byte("abcdefghijkl"))
	for most, want := range []string{"", "a", "ab", "abc"} {
		gives(t, q, most, 0, want)
	}
	for _, most := range []int{0, -1, -12, math.MinInt} {
		gives(t, q, most, 0, "")
	}
	for _, most := range []int{12, 13, 1 << 40, math.MaxInt} {
		gives(t, q, most, 0, "abcdefghijkl")
	}
	q.Sent(0, 9)
	gives(t, q, 2, 9, "jk")
	gives(t, q, 3, 9, "jkl")
	gives(t, q, 4, 9, "jkl")
	q.Lost(5, 2)
	q.Lost(1, 3)
	holds(t, q, 0, 9, 12, 1, 3, 5, 6)
	// The first owed range only, and never what was never sent together with it.
	gives(t, q, 2, 1, "bc")
	gives(t, q, 3, 1, "bcd")
	gives(t, q, math.MaxInt, 1, "bcd")
	gives(t, q, 0, 0, "")
	gives(t, q, -1, 0, "")
	q.Sent(1, 3)
	gives(t, q, 1, 5, "f")
	gives(t, q, 99, 5, "fg")
	q.Lost(7, 2)
	gives(t, q, 99, 5, "fghi")
	q.Sent(5, 4)
	gives(t, q, 99, 9, "jkl")
	q.Sent(9, 3)
	gives(t, q, 99, 0, "")
}

// Next can be asked any number of times, and nothing is sent by it.
func TestP2501NextChangesNothing(t *testing.T) {
	q, m := New(8), modelOf(8)
	for _, c := range []call{{kind: doWrite, body: []byte("abcdefgh")}, {kind: doSent, n: 6}, {kind: doLost, off: 1, n: 2}, {kind: doAcked, off: 4, n: 1}} {
		both(t, q, m, c)
		for range 3 {
			same(t, q, m, 1, 2, 5, 99)
		}
	}
}

// A queue neither changes nor keeps what is written, and an answer shares nothing with it.
func TestP2501Memory(t *testing.T) {
	q := New(10)
	spare := []byte("abcdefgh")
	if q.Write(spare[:3]) != 3 || string(spare) != "abcdefgh" {
		t.Errorf("Write: the argument becomes %q", spare)
	}
	copy(spare, "ZZZZZZZZ")
	gives(t, q, 99, 0, "abc")
	p, _ := q.Next(2)
	copy(p.Body[:cap(p.Body)], "ZZZZZZZZ")
	o, _ := q.Next(2)
	if string(o.Body) != "ab" {
		t.Errorf("Next: %q", o.Body)
	}
	gives(t, q, 99, 0, "abc")
	q.Sent(0, 3)
	q.Lost(0, 1)
	q.Lost(2, 1)
	l := q.Owed()
	for i := range l {
		l[i] = api.Span{Lo: 7, Hi: 9}
	}
	_ = append(l[:0], api.Span{Lo: 8, Hi: 8})
	holds(t, q, 0, 3, 3, 0, 0, 2, 2)
}

// edgeQueue tells a queue of the given room of which all bytes before base are acknowledged and no others were written.
func edgeQueue(room int, base uint64) *Queue {
	q := New(room)
	q.fresh, q.acked = base, row(0, base-1)
	return q
}

// No stream is longer than MaxPn, which no stream that can be written reaches.
func TestP2501EndOfOffsets(t *testing.T) {
	for _, x := range []struct {
		room int
		base uint64
		want int
	}{{5, api.MaxPn - 20, 5}, {5, api.MaxPn - 6, 5}, {5, api.MaxPn - 5, 5}, {5, api.MaxPn - 4, 4}, {5, api.MaxPn - 1, 1}, {5, api.MaxPn, 0}, {65536, api.MaxPn - 3, 3}} {
		q := edgeQueue(x.room, x.base)
		holds(t, q, x.base, x.base, x.base)
		b := text(0, 9)
		if got := q.Write(b); got != x.want || q.End() != x.base+uint64(x.want) {
			t.Errorf("room %d, base %d: %d bytes are accepted, want %d", x.room, x.base, got, x.want)
		}
		if x.want > 0 {
			gives(t, q, 99, x.base, string(b[:x.want]))
		}
	}
	q := edgeQueue(9, api.MaxPn-4)
	q.Write([]byte("abcdef"))
	if q.Sent(api.MaxPn-4, 5) || q.Sent(api.MaxPn, 1) || q.Sent(api.MaxPn-4, api.Top) || !q.Sent(api.MaxPn-4, 4) {
		t.Error("Sent up to the end of all offsets")
	}
	if q.Lost(api.MaxPn-1, 2) || !q.Lost(api.MaxPn-1, 1) || !q.Lost(api.MaxPn-3, 1) {
		t.Error("Lost up to the end of all offsets")
	}
	holds(t, q, api.MaxPn-4, api.MaxPn, api.MaxPn, api.MaxPn-3, api.MaxPn-3, api.MaxPn-1, api.MaxPn-1)
	gives(t, q, 9, api.MaxPn-3, "b")
	if q.Acked(api.MaxPn-1, 2) || !q.Acked(api.MaxPn-1, 1) || !q.Acked(0, api.MaxPn) || q.Write([]byte("x")) != 0 {
		t.Error("Acked up to the end of all offsets")
	}
	holds(t, q, api.MaxPn, api.MaxPn, api.MaxPn)
}

func TestP2502Sent(t *testing.T) {
	q := New(10)
	q.Write([]byte("abcdefghij"))
	if !q.Sent(0, 3) {
		t.Error("Sent from Fresh on")
	}
	holds(t, q, 0, 3, 10)
	if !q.Sent(1, 1) || !q.Sent(0, 3) {
		t.Error("Sent again")
	}
	holds(t, q, 0, 3, 10)
	if !q.Sent(2, 3) {
		t.Error("Sent across Fresh")
	}
	holds(t, q, 0, 5, 10)
	q.Lost(0, 5)
	if !q.Sent(1, 2) {
		t.Error("Sent of owed bytes")
	}
	holds(t, q, 0, 5, 10, 0, 0, 3, 4)
	if !q.Sent(4, 6) {
		t.Error("Sent of owed bytes and fresh ones")
	}
	holds(t, q, 0, 10, 10, 0, 0, 3, 3)
	q.Acked(0, 4)
	if !q.Sent(0, 2) || !q.Sent(3, 3) {
		t.Error("Sent of acknowledged bytes")
	}
	holds(t, q, 4, 10, 10)
}

func TestP2502Acked(t *testing.T) {
	q := New(10)
	q.Write([]byte("abcdefghij"))
	q.Sent(0, 8)
	if !q.Acked(2, 2) || !q.Acked(2, 2) || !q.Acked(3, 1) {
		t.Error("Acked in the midst")
	}
	holds(t, q, 0, 8, 10)
	if !q.Acked(0, 1) {
		t.Error("Acked from Base on")
	}
	holds(t, q, 1, 8, 10)
	if !q.Acked(1, 1) {
		t.Error("Acked up to what is acknowledged")
	}
	holds(t, q, 4, 8, 10)
	q.Lost(4, 4)
	if !q.Acked(5, 2) {
		t.Error("Acked of owed bytes")
	}
	holds(t, q, 4, 8, 10, 4, 4, 7, 7)
	gives(t, q, 9, 4, "e")
	if !q.Acked(0, 5) {
		t.Error("Acked across Base")
	}
	holds(t, q, 7, 8, 10, 7, 7)
	gives(t, q, 9, 7, "h")
	if !q.Acked(0, 8) {
		t.Error("Acked from the first byte on")
	}
	holds(t, q, 8, 8, 10)
	gives(t, q, 9, 8, "ij")
}

func TestP2502Lost(t *testing.T) {
	q := New(10)
	q.Write([]byte("abcdefghij"))
	q.Sent(0, 9)
	if !q.Lost(4, 2) || !q.Lost(5, 1) {
		t.Error("Lost in the midst")
	}
	holds(t, q, 0, 9, 10, 4, 5)
	if !q.Lost(6, 1) || !q.Lost(8, 1) {
		t.Error("Lost next to owed bytes")
	}
	holds(t, q, 0, 9, 10, 4, 6, 8, 8)
	q.Acked(2, 1)
	q.Acked(5, 1)
	if !q.Lost(1, 7) {
		t.Error("Lost across acknowledged bytes")
	}
	holds(t, q, 0, 9, 10, 1, 1, 3, 4, 6, 8)
	if !q.Lost(2, 1) {
		t.Error("Lost of acknowledged bytes")
	}
	holds(t, q, 0, 9, 10, 1, 1, 3, 4, 6, 8)
	q.Acked(0, 2)
	if !q.Lost(0, 2) || !q.Lost(0, 1) || !q.Lost(0, 4) {
		t.Error("Lost of bytes before Base")
	}
	holds(t, q, 3, 9, 10, 3, 4, 6, 8)
	gives(t, q, 9, 3, "de")
}

// numbers tells those to 7 and some that are great, up to the end of their type.
func numbers() []uint64 {
	return []uint64{0, 1, 2, 3, 4, 5, 6, 7, 255, 256, 1 << 32, 1 << 62, 1<<63 - 1, 1 << 63, api.Top - 7, api.Top - 3, api.Top - 2, api.Top - 1, api.Top}
}

// What does not lie before End or Fresh changes nothing, however great the numbers are.
func TestP2502Refused(t *testing.T) {
	q, m := New(7), modelOf(7)
	for _, c := range []call{{kind: doWrite, body: []byte("abcdef")}, {kind: doSent, n: 4}, {kind: doLost, n: 3}, {kind: doAcked, n: 1}, {kind: doAcked, off: 2, n: 1}} {
		both(t, q, m, c)
		for _, kind := range []int{doSent, doAcked, doLost} {
			for _, off := range numbers() {
				for _, n := range numbers() {
					both(t, q.Fork(), m.fork(), call{kind: kind, off: off, n: n})
				}
			}
		}
	}
}

// small tells every call with offsets and lengths up to one more than most.
func small(most uint64) []call {
	var l []call
	for _, kind := range []int{doSent, doAcked, doLost} {
		for off := range most + 2 {
			for n := range most + 2 {
				l = append(l, call{kind: kind, off: off, n: n})
			}
		}
	}
	return l
}

// Every state that a small queue can come to within a stream of five bytes, and every call in each of them.
func TestP2502Exact(t *testing.T) {
	const stream = 5
	calls := small(stream)
	for room := 1; room <= stream; room++ {
		type pair struct {
			q *Queue
			m *model
		}
		todo := []pair{{New(room), modelOf(room)}}
		seen := map[string]bool{todo[0].m.key(): true}
		for len(todo) > 0 {
			p := todo[0]
			todo = todo[1:]
			for n := range stream - len(p.m.text) + 1 {
				calls = append(calls, call{kind: doWrite, body: text(len(p.m.text), n)})
			}
			for _, c := range calls {
				q, m := p.q.Fork(), p.m.fork()
				both(t, q, m, c)
				if key := m.key(); !seen[key] {
					seen[key] = true
					todo = append(todo, pair{q, m})
				}
			}
			calls = calls[:len(calls)-(stream-len(p.m.text)+1)]
		}
		if room == stream && len(seen) < 300 {
			t.Errorf("only %d states", len(seen))
		}
	}
}

// drawnCall tells a call that may be refused, but often is not.
func drawnCall(r *rand.Rand, m *model) call {
	off := m.base() + uint64(r.Intn(int(m.end()-m.base())+3))
	if r.Intn(10) == 0 {
		off = uint64(r.Intn(int(m.end()) + 2))
	}
	c := call{kind: r.Intn(4), off: off, n: uint64(r.Intn(1 + r.Intn(int(m.room)+2)))}
	switch c.kind {
	case doWrite:
		c.body = text(len(m.text), r.Intn(int(m.room)+2))
	case doSent:
		if r.Intn(2) == 0 {
			c.off = m.fresh()
		}
	}
	return c
}

// Long random runs over queues of many sizes.
func TestP2502Drawn(t *testing.T) {
	r := rand.New(rand.NewSource(2502))
	done, refused, length := 0, 0, 0
	for range 600 {
		room := 1 + r.Intn(1+r.Intn(60))
		q, m := New(room), modelOf(room)
		for range 200 {
			c := drawnCall(r, m)
			if both(t, q, m, c) {
				done++
			} else if c.kind != doWrite {
				refused++
			}
		}
		length += len(m.text)
	}
	if done < 20000 || refused < 20000 || length < 10000 {
		t.Errorf("%d calls were done, %d refused, and %d bytes accepted", done, refused, length)
	}
}

// A fork has the room, the bytes and what became of them, and neither moves the other.
func TestP2502Fork(t *testing.T) {
	r := rand.New(rand.NewSource(25))
	for range 400 {
		room := 1 + r.Intn(20)
		q, m := New(room), modelOf(room)
		for range r.Intn(30) {
			both(t, q, m, drawnCall(r, m))
		}
		f, g := q.Fork(), m.fork()
		if f == nil || f == q {
			t.Fatal("no queue of its own")
		}
		for range 30 {
			if r.Intn(2) == 0 {
				both(t, q, m, drawnCall(r, m))
			} else {
				both(t, f, g, drawnCall(r, g))
			}
			same(t, q, m)
			same(t, f, g)
		}
	}
}

// Forks do not share where they keep bytes that are written later.
func TestP2502ForksShareNothing(t *testing.T) {
	for ahead := range 12 {
		q := New(20)
		q.Write(text(0, ahead))
		f := q.Fork()
		g := f.Fork()
		for range 20 - ahead {
			q.Write([]byte("q"))
			f.Write([]byte("f"))
			g.Write([]byte("g"))
		}
		for _, x := range []struct {
			q    *Queue
			name string
		}{{q, "q"}, {f, "f"}, {g, "g"}} {
			want := append(text(0, ahead), bytes.Repeat([]byte(x.name), 20-ahead)...)
			if p, ok := x.q.Next(99); !ok || !bytes.Equal(p.Body, want) {
				t.Errorf("behind %d bytes, %s has %q", ahead, x.name, p.Body)
			}
		}
	}
}

func TestP2502Nil(t *testing.T) {
	var q *Queue
	for _, most := range []int{math.MinInt, 0, 1, math.MaxInt} {
		gives(t, q, most, 0, "")
	}
	for _, off := range numbers() {
		for _, n := range numbers() {
			if q.Sent(off, n) || q.Acked(off, n) || q.Lost(off, n) {
				t.Errorf("a nil queue has %d bytes from %d on", n, off)
			}
		}
	}
	if q.Write(nil) != 0 || q.Write([]byte("abc")) != 0 || q.Fork() != nil {
		t.Error("a nil queue takes something")
	}
	holds(t, q, 0, 0, 0)
}

// A queue that New did not make has no room, and no call makes it panic.
func TestP2502Zero(t *testing.T) {
	q := &Queue{}
	if q.Write([]byte("a")) != 0 || q.Sent(0, 1) || q.Acked(0, 1) || q.Lost(0, 1) {
		t.Error("a queue without room takes something")
	}
	gives(t, q, 1, 0, "")
	holds(t, q.Fork(), 0, 0, 0)
}

// afloat is a piece that was sent and of which nothing was heard yet.
type afloat struct{ off, n uint64 }

// line is a queue, the stream that was written to it, and what the test itself saw of the pieces that were sent.
type line struct {
	t      *testing.T
	r      *rand.Rand
	q      *Queue
	text   []byte
	got    map[uint64]byte // what came to the receiver
	afloat []afloat
	late   []afloat // pieces that were taken for lost
}

// write writes some bytes.
func (l *line) write() {
	b := make([]byte, l.r.Intn(40))
	l.r.Read(b)
	l.text = append(l.text, b[:l.q.Write(b)]...)
}

// send sends what is next, if anything is.
func (l *line) send() {
	p, ok := l.q.Next(1 + l.r.Intn(12))
	if !ok {
		return
	}
	n := uint64(len(p.Body))
	if p.Off+n > uint64(len(l.text)) || !bytes.Equal(p.Body, l.text[p.Off:p.Off+n]) {
		l.t.Fatalf("%d bytes from %d on differ from those that were written", n, p.Off)
	}
	if !l.q.Sent(p.Off, n) {
		l.t.Fatalf("Sent refuses the piece of %d bytes from %d on", n, p.Off)
	}
	l.afloat = append(l.afloat, afloat{p.Off, n})
}

// take takes one piece out of the list, if there is one.
func (l *line) take(from *[]afloat) (afloat, bool) {
	if len(*from) == 0 {
		return afloat{}, false
	}
	i := l.r.Intn(len(*from))
	a := (*from)[i]
	*from = slices.Delete(*from, i, i+1)
	return a, true
}

// arrive acknowledges a piece of the list.
func (l *line) arrive(from *[]afloat) {
	a, ok := l.take(from)
	if !ok {
		return
	}
	if !l.q.Acked(a.off, a.n) {
		l.t.Fatalf("Acked refuses the piece of %d bytes from %d on", a.n, a.off)
	}
	for i := a.off; i < a.off+a.n; i++ {
		l.got[i] = l.text[i]
	}
}

// lose takes a piece for lost; it may still arrive.
func (l *line) lose() {
	a, ok := l.take(&l.afloat)
	if !ok {
		return
	}
	if !l.q.Lost(a.off, a.n) {
		l.t.Fatalf("Lost refuses the piece of %d bytes from %d on", a.n, a.off)
	}
	l.late = append(l.late, a)
}

// accounted holds that each byte that did not arrive is in flight, owed, or not sent yet, and that no byte that arrived is owed or sought.
func (l *line) accounted() {
	l.t.Helper()
	where := make([]int, len(l.text)+1)
	for _, a := range l.afloat {
		for i := a.off; i < a.off+a.n; i++ {
			where[i] |= 1 << flying
		}
	}
	for _, s := range l.q.Owed() {
		for i := s.Lo; i <= s.Hi; i++ {
			where[i] |= 1 << owed
		}
	}
	for i := l.q.Fresh(); i < l.q.End(); i++ {
		where[i] |= 1 << unsent
	}
	base := uint64(len(l.text))
	for i := range l.text {
		_, came := l.got[uint64(i)]
		if !came {
			base = min(base, uint64(i))
		}
		if !came && where[i] == 0 || came && where[i]&^(1<<flying) != 0 {
			l.t.Fatalf("the byte %d of %d, came: %v, is in %b", i, len(l.text), came, where[i])
		}
	}
	if l.q.Base() != base || l.q.End() != uint64(len(l.text)) {
		l.t.Fatalf("base %d, end %d; want %d, %d", l.q.Base(), l.q.End(), base, len(l.text))
	}
}

// kept holds that each byte that did not arrive can still be sent, as it was written.
func (l *line) kept() {
	l.t.Helper()
	f := l.q.Fork()
	f.Lost(0, f.Fresh())
	seen := map[uint64]byte{}
	for range len(l.text) + 1 {
		p, ok := f.Next(math.MaxInt)
		if !ok {
			break
		}
		for i, x := range p.Body {
			seen[p.Off+uint64(i)] = x
		}
		f.Sent(p.Off, uint64(len(p.Body)))
	}
	for i, want := range l.text {
		_, came := l.got[uint64(i)]
		if x, ok := seen[uint64(i)]; ok == came || ok && x != want {
			l.t.Fatalf("the byte %d, came: %v: %d, %v; want %d", i, came, x, ok, want)
		}
	}
}

// newLine tells a line of a queue of a drawn size.
func newLine(t *testing.T, r *rand.Rand) *line {
	return &line{t: t, r: r, q: New(1 + r.Intn(120)), got: map[uint64]byte{}}
}

// step does one of what may happen.
func (l *line) step() {
	switch l.r.Intn(8) {
	case 0, 1:
		l.write()
	case 2, 3, 4:
		l.send()
	case 5:
		l.arrive(&l.afloat)
	case 6:
		l.lose()
	case 7:
		if l.r.Intn(3) == 0 {
			l.arrive(&l.late)
		}
	}
	if l.r.Intn(20) == 0 {
		l.q = l.q.Fork()
	}
}

func TestP2503NothingIsForgotten(t *testing.T) {
	r := rand.New(rand.NewSource(2503))
	for range 60 {
		l := newLine(t, r)
		for range 150 {
			l.step()
			l.accounted()
			l.kept()
		}
	}
}

// Whatever was lost on the way, everything that was written arrives once nothing is lost any more.
func TestP2503EverythingArrives(t *testing.T) {
	r := rand.New(rand.NewSource(25030))
	length := 0
	for range 60 {
		l := newLine(t, r)
		for range 300 {
			l.step()
		}
		for range 2*len(l.text) + len(l.afloat) + 1 {
			l.send()
			l.arrive(&l.afloat)
		}
		l.accounted()
		if l.q.Base() != l.q.End() || len(l.got) != len(l.text) {
			t.Fatalf("%d of %d bytes arrived, %d are acknowledged", len(l.got), len(l.text), l.q.Base())
		}
		if _, ok := l.q.Next(1); ok {
			t.Fatal("there is more to send")
		}
		length += len(l.text)
	}
	if length < 10000 {
		t.Errorf("only %d bytes were written", length)
	}
}
