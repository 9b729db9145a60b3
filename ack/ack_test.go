package ack

import (
	"bytes"
	"encoding/binary"
	"encoding/hex"
	"math/rand"
	"slices"
	"testing"

	"splittally/api"
)

// wide is how many numbers the small sets of these tests are drawn from: bit i of such a set stands for the number i behind a base.
const wide = 5

// bases tells where the small sets begin: at 0, within, and so that the last number of them is MaxPn.
func bases() []uint64 { return []uint64{0, 1 << 32, api.MaxPn - wide + 1} }

// list tells spans of pairs.
func list(l ...uint64) []api.Span {
	var out []api.Span
	for i := 0; i+1 < len(l); i += 2 {
		out = append(out, api.Span{Lo: l[i], Hi: l[i+1]})
	}
	return out
}

// rowOf tells the row of a small set, one run of bits after the other.
func rowOf(set int, base uint64) []api.Span {
	var out []api.Span
	for i := range uint64(wide) {
		switch {
		case set>>i&1 == 0:
		case i > 0 && set>>(i-1)&1 == 1:
			out[len(out)-1].Hi++
		default:
			out = append(out, api.Span{Lo: base + i, Hi: base + i})
		}
	}
	return out
}

// many tells n spans of one number each, with one number between them, from lo on.
func many(n int, lo uint64) []api.Span {
	var out []api.Span
	for i := range uint64(n) {
		out = append(out, api.Span{Lo: lo + 2*i, Hi: lo + 2*i})
	}
	return out
}

// some tells an ordinary acknowledgment.
func some() api.Ack {
	return api.Ack{Spans: list(3, 5, 9, 9), Marked: list(4, 4, 9, 9), Trigger: 0x0102030405060708, Xor: 9, Parity: true}
}

// same tells whether two acknowledgments are alike.
func same(a, b api.Ack) bool {
	return slices.Equal(a.Spans, b.Spans) && slices.Equal(a.Marked, b.Marked) && a.Trigger == b.Trigger && a.Xor == b.Xor && a.Parity == b.Parity
}

// long tells n in size bytes below the tag of that length, whether or not fewer bytes would do.
func long(n uint64, size int) []byte {
	b := binary.BigEndian.AppendUint64(nil, n)[8-size:]
	b[0] |= map[int]byte{1: 0, 2: 0x40, 4: 0x80, 8: 0xc0}[size]
	return b
}

// fewest tells in how few bytes n can be told.
func fewest(n uint64) int {
	for _, x := range []int{1, 2, 4} {
		if n < 1<<(8*x-2) {
			return x
		}
	}
	return 8
}

// short tells n in as few bytes as can be.
func short(n uint64) []byte { return long(n, fewest(n)) }

// gaps tells the numbers that stand for a row, two a span.
func gaps(l []api.Span) []uint64 {
	var out []uint64
	for i, s := range l {
		if i == 0 {
			out = append(out, s.Lo, s.Hi-s.Lo)
			continue
		}
		out = append(out, s.Lo-l[i-1].Hi-2, s.Hi-s.Lo)
	}
	return out
}

// parts tells the fields of an encoding one by one: kind; count and numbers of Spans; the same of Marked; Trigger, Xor, Parity.
func parts(a api.Ack) [][]byte {
	out := [][]byte{{2}}
	for _, l := range [][]api.Span{a.Spans, a.Marked} {
		out = append(out, []byte{byte(len(l))})
		for _, n := range gaps(l) {
			out = append(out, short(n))
		}
	}
	out = append(out, binary.BigEndian.AppendUint64(nil, a.Trigger), binary.BigEndian.AppendUint64(nil, a.Xor), []byte{0})
	if a.Parity {
		out[len(out)-1][0] = 1
	}
	return out
}

// join tells the bytes of the fields one behind the other.
func join(l [][]byte) []byte { return bytes.Join(l, nil) }

// proofs tells the fields behind Marked.
func proofs() []byte { return join([][]byte{make([]byte, 16), {0}}) }

// numbers tells the edges of each length of an integer.
func numbers() []uint64 {
	return []uint64{0, 1, 2, 63, 64, 1<<14 - 1, 1 << 14, 1<<30 - 1, 1 << 30, 1 << 32, api.MaxPn - 3, api.MaxPn - 2, api.MaxPn - 1, api.MaxPn}
}

// drawn tells a row of at most n spans of all sizes, whose numbers are at most most.
func drawn(r *rand.Rand, n int, most uint64) []api.Span {
	var out []api.Span
	var least uint64
	for range n {
		lo := least + r.Uint64()>>r.Intn(64)%(most/64+2)
		hi := lo + r.Uint64()>>r.Intn(64)%(most/64+2)
		if hi > most {
			break
		}
		out = append(out, api.Span{Lo: lo, Hi: hi})
		least = hi + 2
	}
	return out
}

// part tells a row of at most MaxSpans spans, with some of the numbers of the row l.
func part(r *rand.Rand, l []api.Span) []api.Span {
	var out []api.Span
	for _, s := range l {
		switch r.Intn(4) {
		case 0:
			out = append(out, s)
		case 1:
			out = append(out, api.Span{Lo: s.Lo, Hi: s.Lo + (s.Hi-s.Lo)/2})
		case 2:
			out = append(out, api.Span{Lo: s.Hi - (s.Hi-s.Lo)/3, Hi: s.Hi})
		}
	}
	return out
}

// acks tells valid acknowledgments: small sets of all kinds, the edges of each integer and of the number of spans, and draws from a fixed seed.
func acks() []api.Ack {
	r := rand.New(rand.NewSource(9))
	var l []api.Ack
	add := func(spans, marked []api.Span) {
		l = append(l, api.Ack{Spans: spans, Marked: marked, Trigger: r.Uint64() >> r.Intn(64), Xor: r.Uint64() >> r.Intn(64), Parity: r.Intn(2) == 0})
	}
	for _, base := range bases() {
		for set := 1; set < 1<<wide; set++ {
			for marked := range 1 << wide {
				if marked&^set == 0 {
					add(rowOf(set, base), rowOf(marked, base))
				}
			}
		}
	}
	for _, lo := range numbers() {
		for _, hi := range numbers() {
			switch {
			case lo > hi:
			case lo == hi:
				add(list(lo, hi), list(lo, hi))
			case hi-lo < 2:
				add(list(lo, hi), nil)
			default:
				add(list(lo, hi), list(lo, lo, hi, hi))
				add(list(lo, lo, hi, hi), list(hi, hi))
			}
		}
	}
	for _, n := range []int{1, 2, 31, 32} {
		for _, lo := range []uint64{0, 1 << 40, api.MaxPn - uint64(2*n-2)} {
			add(many(n, lo), many(n, lo))
			add(many(n, lo), nil)
			add(list(lo, api.MaxPn), many(n, lo))
		}
	}
	for range 500 {
		if spans := drawn(r, 1+r.Intn(32), uint64(api.MaxPn)>>r.Intn(56)); len(spans) > 0 {
			add(spans, part(r, spans))
		}
	}
	return l
}

// noRows tells spans that are no row.
func noRows() [][]api.Span {
	return [][]api.Span{
		list(4, 3),
		list(api.Top, 0),
		list(3, 5, 6, 7),
		list(3, 5, 5, 7),
		list(3, 5, 4, 4),
		list(3, 5, 3, 5),
		list(7, 9, 3, 5),
		list(3, 5, 9, 8),
		list(3, 5, 7, 9, 10, 12),
		list(0, api.MaxPn+1),
		list(api.MaxPn+1, api.MaxPn+1),
		list(0, api.Top),
		list(api.Top, api.Top),
		list(0, api.MaxPn-1, api.MaxPn, api.MaxPn),
		list(0, api.MaxPn, 0, 0),
		list(0, api.MaxPn-2, api.MaxPn, api.MaxPn+1),
		list(0, api.MaxPn, api.MaxPn+2, api.MaxPn+2),
	}
}

// checkMay tells if a is valid and should not be, or the other way round, by May or by Encode.
func checkMay(t *testing.T, a api.Ack, want bool) {
	t.Helper()
	if May(a) != want {
		t.Errorf("May(%v) is %v", a, !want)
	}
	b, e := Encode(a)
	if want && (e != api.OK || !bytes.Equal(b, join(parts(a)))) || !want && (e != api.ErrArg || len(b) != 0) {
		t.Errorf("Encode(%v) is %x, %d", a, b, e)
	}
}

// checkDecode tells if b is not decoded to a.
func checkDecode(t *testing.T, b []byte, a api.Ack) {
	t.Helper()
	if got, e := Decode(b); e != api.OK || !same(got, a) {
		t.Errorf("Decode of %x is %v, %d, want %v", b, got, e, a)
	}
}

// checkError tells if b is decoded, or refused with another error or with something beside it.
func checkError(t *testing.T, b []byte, want api.Errno) {
	t.Helper()
	if a, e := Decode(b); e != want || !same(a, api.Ack{}) {
		t.Errorf("Decode of %x is %v, %d, want error %d", b, a, e, want)
	}
}

func TestP901Known(t *testing.T) {
	for _, x := range []struct {
		a    api.Ack
		want string
	}{
		{some(), "02" + "0203020200" + "0204000300" + "0102030405060708" + "0000000000000009" + "01"},
		{api.Ack{Spans: list(0, 0)}, "02" + "010000" + "00" + "0000000000000000" + "0000000000000000" + "00"},
		{api.Ack{Spans: list(0, 0, 2, 2, 4, 4), Xor: api.Top}, "02" + "03000000000000" + "00" + "0000000000000000" + "ffffffffffffffff" + "00"},
		{api.Ack{Spans: list(63, 127), Marked: list(64, 127), Trigger: 1 << 63}, "02" + "013f4040" + "0140403f" + "8000000000000000" + "0000000000000000" + "00"},
		{api.Ack{Spans: list(0, api.MaxPn), Parity: true}, "02" + "0100ffffffffffffffff" + "00" + "0000000000000000" + "0000000000000000" + "01"},
		{api.Ack{Spans: list(1, 1, 1<<14+3, 1<<30+1<<14+3), Marked: list(1<<14+3, 1<<14+3)}, "02" + "02010080004000c000000040000000" + "018000400300" + "0000000000000000" + "0000000000000000" + "00"},
		{api.Ack{Spans: list(0, api.MaxPn-2, api.MaxPn, api.MaxPn), Marked: list(api.MaxPn, api.MaxPn)}, "02" + "0200fffffffffffffffd0000" + "01ffffffffffffffff00" + "0000000000000000" + "0000000000000000" + "00"},
	} {
		b, e := Encode(x.a)
		if got := hex.EncodeToString(b); got != x.want || e != api.OK || !May(x.a) {
			t.Errorf("Encode(%v) is %s, %d, want %s; May is %v", x.a, got, e, x.want, May(x.a))
		}
		want, _ := hex.DecodeString(x.want)
		checkDecode(t, want, x.a)
	}
}

// Each small set of marked numbers beside each small set of claimed ones.
func TestP901MayWithin(t *testing.T) {
	for _, base := range bases() {
		for set := range 1 << wide {
			for marked := range 1 << wide {
				checkMay(t, api.Ack{Spans: rowOf(set, base), Marked: rowOf(marked, base)}, set != 0 && marked&^set == 0)
			}
		}
	}
}

func TestP901MayHowMany(t *testing.T) {
	for n := range 70 {
		for _, lo := range []uint64{0, 1 << 40, api.MaxPn - 200} {
			checkMay(t, api.Ack{Spans: many(n, lo)}, n >= 1 && n <= 32)
			checkMay(t, api.Ack{Spans: list(0, api.MaxPn), Marked: many(n, lo)}, n <= 32)
			checkMay(t, api.Ack{Spans: many(n, lo), Marked: many(n, lo)}, n >= 1 && n <= 32)
		}
	}
	// A count that is cut to a byte would be a valid one.
	checkMay(t, api.Ack{Spans: many(257, 0)}, false)
	checkMay(t, api.Ack{Spans: list(0, api.MaxPn), Marked: many(256, 0)}, false)
}

func TestP901MayRows(t *testing.T) {
	checkMay(t, api.Ack{}, false)
	checkMay(t, api.Ack{Spans: []api.Span{}, Marked: []api.Span{}}, false)
	checkMay(t, api.Ack{Spans: list(3, 5), Marked: []api.Span{}}, true)
	for _, l := range noRows() {
		checkMay(t, api.Ack{Spans: l}, false)
		checkMay(t, api.Ack{Spans: l, Marked: list(3, 3)}, false)
		checkMay(t, api.Ack{Spans: l, Marked: l}, false)
		checkMay(t, api.Ack{Spans: list(0, api.MaxPn), Marked: l}, false)
		checkMay(t, api.Ack{Marked: l}, false)
	}
}

// The proofs may be anything, and no number of theirs makes an acknowledgment invalid.
func TestP901MayProofs(t *testing.T) {
	for _, n := range []uint64{0, 1, api.MaxPn, api.MaxPn + 1, 1 << 63, api.Top} {
		for _, m := range []uint64{0, 255, api.MaxPn + 1, api.Top} {
			for _, parity := range []bool{false, true} {
				a := api.Ack{Spans: list(1, 2), Trigger: n, Xor: m, Parity: parity}
				checkMay(t, a, true)
				checkDecode(t, join(parts(a)), a)
			}
		}
	}
}

func TestP901DecodeExamples(t *testing.T) {
	checkError(t, nil, api.ErrShort)
	checkError(t, []byte{}, api.ErrShort)
	checkError(t, []byte{2}, api.ErrShort)
	checkError(t, []byte{3}, api.ErrKind)
}

func TestP901DecodeKind(t *testing.T) {
	for kind := range 256 {
		b := join(parts(some()))
		b[0] = byte(kind)
		if kind != api.KAck {
			checkError(t, b[:1], api.ErrKind)
			checkError(t, b[:2], api.ErrKind)
			checkError(t, b, api.ErrKind)
			checkError(t, append(b, 0), api.ErrKind)
		}
	}
}

// The number of spans counts before the spans that it tells of are there.
func TestP901DecodeHowMany(t *testing.T) {
	for n := range 256 {
		spans := many(n, 0)
		b := append([]byte{2, byte(n)}, make([]byte, 2*n)...)
		marked := append(append([]byte{2, 1, 0, 0x7f, 0xff}, byte(n)), make([]byte, 2*n)...)
		if n >= 1 && n <= 32 {
			checkError(t, b[:2], api.ErrShort)
			checkDecode(t, join([][]byte{b, {0}, proofs()}), api.Ack{Spans: spans})
		} else {
			checkError(t, b[:2], api.ErrForm)
			checkError(t, join([][]byte{b, {0}, proofs()}), api.ErrForm)
			checkError(t, join([][]byte{b, {0}, proofs(), {0}}), api.ErrForm)
		}
		if n <= 32 {
			checkError(t, marked[:6], api.ErrShort)
			checkDecode(t, join([][]byte{marked, proofs()}), api.Ack{Spans: list(0, 1<<14-1), Marked: spans})
		} else {
			checkError(t, marked[:6], api.ErrForm)
			checkError(t, join([][]byte{marked, proofs()}), api.ErrForm)
			checkError(t, join([][]byte{marked, proofs(), {0}}), api.ErrForm)
		}
	}
}

func TestP901DecodeParity(t *testing.T) {
	for parity := range 256 {
		a := some()
		a.Parity = parity == 1
		b := join(parts(a))
		b[len(b)-1] = byte(parity)
		if parity <= 1 {
			checkDecode(t, b, a)
			checkError(t, append(b, 0), api.ErrLong)
			continue
		}
		checkError(t, b, api.ErrForm)
		checkError(t, append(b, 0), api.ErrForm)
	}
}

// Each encoding, cut at each place and with bytes behind it.
func TestP901DecodeShortAndLong(t *testing.T) {
	for i, a := range acks() {
		b := join(parts(a))
		if i%7 == 0 {
			for n := range b {
				checkError(t, b[:n], api.ErrShort)
			}
		}
		checkError(t, append(bytes.Clone(b), 0), api.ErrLong)
		checkError(t, append(bytes.Clone(b), b...), api.ErrLong)
	}
}

// Each integer in each length that it needs not have, with all and with nothing behind it.
func TestP901DecodeNotShortest(t *testing.T) {
	for _, a := range acks() {
		for i, n := range integers(a) {
			for _, s := range []int{1, 2, 4, 8} {
				if s <= fewest(n) {
					continue
				}
				l := parts(a)
				l[i] = long(n, s)
				checkError(t, join(l), api.ErrForm)
				cut := join(l[:i+1])
				checkError(t, cut, api.ErrForm)
				checkError(t, cut[:len(cut)-1], api.ErrShort)
			}
		}
	}
}

// integers tells which of the fields of an encoding are integers of variable length.
func integers(a api.Ack) map[int]uint64 {
	out := map[int]uint64{}
	for i, n := range gaps(a.Spans) {
		out[2+i] = n
	}
	for i, n := range gaps(a.Marked) {
		out[3+2*len(a.Spans)+i] = n
	}
	return out
}

// Each integer as great as it can be, and one greater: the number that it leads to counts, before anything behind it is there.
func TestP901DecodeTooGreat(t *testing.T) {
	for _, a := range acks() {
		for i := range integers(a) {
			l := parts(a)
			least := reached(a, i)
			if least > 0 {
				l[i] = short(api.MaxPn - least + 1)
				checkError(t, join(l), api.ErrForm)
				checkError(t, join(l[:i+1]), api.ErrForm)
			}
			l[i] = short(api.MaxPn)
			if least > 0 {
				checkError(t, join(l[:i+1]), api.ErrForm)
			}
			l[i] = short(api.MaxPn - least)
			checkError(t, join(l[:i+1]), api.ErrShort)
		}
	}
}

// reached tells the least number that field i of the encoding of a, an integer of variable length, can lead to.
func reached(a api.Ack, i int) uint64 {
	l, k := a.Spans, i-2
	if k >= 2*len(l) {
		l, k = a.Marked, k-2*len(l)-1
	}
	switch {
	case k%2 == 1:
		return l[k/2].Lo
	case k == 0:
		return 0
	}
	return l[k/2-1].Hi + 2
}

// Behind MaxPn and the number below it there is no room for another span, but what is not there or too long is told first.
func TestP901DecodeNoRoom(t *testing.T) {
	for _, hi := range []uint64{api.MaxPn - 1, api.MaxPn} {
		spans := append([]byte{2, 2, 0}, short(hi)...)
		marked := append([]byte{2, 1, 0, 0xff, 0xff, 0xff, 0xff, 0xff, 0xff, 0xff, 0xff, 2, 0}, short(hi)...)
		for _, b := range [][]byte{spans, marked} {
			checkError(t, b, api.ErrShort)
			checkError(t, append(bytes.Clone(b), 0x40), api.ErrShort)
			checkError(t, append(bytes.Clone(b), 0x40, 0), api.ErrForm)
			for _, n := range numbers() {
				checkError(t, append(bytes.Clone(b), short(n)...), api.ErrForm)
				checkError(t, join([][]byte{b, short(n), {0, 0}, proofs()}), api.ErrForm)
			}
		}
	}
}

// Marks that are not claimed are told last, behind all fields and behind bytes that are left.
func TestP901DecodeMarkedNotClaimed(t *testing.T) {
	for _, base := range bases() {
		for set := 1; set < 1<<wide; set++ {
			for marked := range 1 << wide {
				a := api.Ack{Spans: rowOf(set, base), Marked: rowOf(marked, base)}
				b := join(parts(a))
				if marked&^set == 0 {
					checkDecode(t, b, a)
					continue
				}
				checkError(t, b, api.ErrForm)
				checkError(t, append(bytes.Clone(b), 0), api.ErrLong)
				for n := range b {
					checkError(t, b[:n], api.ErrShort)
				}
			}
		}
	}
}

// Of two fields with errors, the first one counts.
func TestP901DecodeFirstError(t *testing.T) {
	most := short(api.MaxPn)
	wrong := []struct {
		field int
		b     []byte
		want  api.Errno
	}{
		{0, []byte{1}, api.ErrKind},
		{1, []byte{0}, api.ErrForm},
		{1, []byte{33}, api.ErrForm},
		{2, []byte{0x40, 3}, api.ErrForm},
		{3, []byte{0x40, 2}, api.ErrForm},
		{3, most, api.ErrForm},
		{4, []byte{0x80, 0, 0, 2}, api.ErrForm},
		{4, most, api.ErrForm},
		{5, []byte{0x40, 0}, api.ErrForm},
		{5, most, api.ErrForm},
		{6, []byte{33}, api.ErrForm},
		{7, []byte{0x40, 4}, api.ErrForm},
		{8, most, api.ErrForm},
		{9, most, api.ErrForm},
		{10, []byte{0x40, 0}, api.ErrForm},
		{13, []byte{2}, api.ErrForm},
		{13, []byte{}, api.ErrShort},
		{13, []byte{1, 1}, api.ErrLong},
	}
	for i, x := range wrong {
		for _, y := range wrong[i+1:] {
			if x.field == y.field {
				continue
			}
			l := parts(some())
			l[x.field], l[y.field] = x.b, y.b
			checkError(t, join(l), x.want)
			// The later field does not even have to be there.
			checkError(t, join(l[:x.field+1]), x.want)
		}
	}
}

func TestP902Known(t *testing.T) {
	for _, x := range []struct {
		n    uint64
		want string
	}{
		{0, "0300"},
		{63, "033f"},
		{64, "034040"},
		{1<<14 - 1, "037fff"},
		{1 << 14, "0380004000"},
		{1<<30 - 1, "03bfffffff"},
		{1 << 30, "03c000000040000000"},
		{api.MaxPn, "03ffffffffffffffff"},
	} {
		b, ok := Challenge(x.n)
		if got := hex.EncodeToString(b); got != x.want || !ok {
			t.Errorf("Challenge(%d) is %s, %v, want %s", x.n, got, ok, x.want)
		}
		want, _ := hex.DecodeString(x.want)
		if n, e := Number(want); n != x.n || e != api.OK {
			t.Errorf("Number of %s is %d, %d", x.want, n, e)
		}
	}
}

func TestP902TooGreat(t *testing.T) {
	for _, n := range []uint64{api.MaxPn + 1, api.MaxPn + 2, 1<<63 - 1, 1 << 63, 3 << 62, api.Top - 1, api.Top} {
		if b, ok := Challenge(n); ok || len(b) != 0 {
			t.Errorf("Challenge(%d) is %x, %v", n, b, ok)
		}
	}
}

// checkNumber tells if b is not refused with that error alone.
func checkNumber(t *testing.T, b []byte, want api.Errno) {
	t.Helper()
	if n, e := Number(b); n != 0 || e != want {
		t.Errorf("Number of %x is %d, %d, want error %d", b, n, e, want)
	}
}

// Of two errors, the one of the earlier field counts; a number that is too long counts before bytes behind it.
func TestP902NumberErrors(t *testing.T) {
	for _, x := range []struct {
		in   string
		want api.Errno
	}{
		{"", api.ErrShort},
		{"02", api.ErrKind},
		{"0205", api.ErrKind},
		{"020500", api.ErrKind},
		{"0240", api.ErrKind},
		{"024005", api.ErrKind},
		{"03", api.ErrShort},
		{"0340", api.ErrShort},
		{"03800040", api.ErrShort},
		{"03c0000000400000", api.ErrShort},
		{"034000", api.ErrForm},
		{"034001", api.ErrForm},
		{"03403f", api.ErrForm},
		{"0380003fff", api.ErrForm},
		{"03c00000003fffffff", api.ErrForm},
		{"03400100", api.ErrForm},
		{"030500", api.ErrLong},
		{"03054001", api.ErrLong},
		{"03050305", api.ErrLong},
		{"03ffffffffffffffff00", api.ErrLong},
	} {
		b, _ := hex.DecodeString(x.in)
		checkNumber(t, b, x.want)
	}
}

// Each number in each length, with each other kind, cut at each place and with bytes behind it.
func TestP902Number(t *testing.T) {
	for _, n := range numbers() {
		for _, s := range []int{1, 2, 4, 8} {
			if s < fewest(n) {
				continue
			}
			b := append([]byte{3}, long(n, s)...)
			for cut := range b {
				checkNumber(t, b[:cut], api.ErrShort)
			}
			want := api.ErrForm
			if s == fewest(n) {
				if got, e := Number(b); got != n || e != api.OK {
					t.Errorf("Number of %x is %d, %d, want %d", b, got, e, n)
				}
				want = api.ErrLong
			}
			checkNumber(t, append(bytes.Clone(b), 0), want)
			if want == api.ErrForm {
				checkNumber(t, b, want)
			}
			for kind := range 256 {
				if kind == api.KChallenge {
					continue
				}
				b[0] = byte(kind)
				checkNumber(t, b, api.ErrKind)
				checkNumber(t, b[:1], api.ErrKind)
			}
		}
	}
}

func TestP903RoundTrip(t *testing.T) {
	for _, a := range acks() {
		b, e := Encode(a)
		if e != api.OK || !May(a) || !bytes.Equal(b, join(parts(a))) {
			t.Errorf("Encode(%v) is %x, %d", a, b, e)
		}
		checkDecode(t, b, a)
	}
}

// Whatever bytes are decoded are those of the acknowledgment that they are decoded to, and that one is valid.
func TestP903OneEncoding(t *testing.T) {
	r := rand.New(rand.NewSource(9))
	l := acks()
	decoded := 0
	for range 200000 {
		b := join(parts(l[r.Intn(len(l))]))
		for range r.Intn(4) {
			b[r.Intn(min(len(b), 1+r.Intn(20)))] = byte(r.Intn(256) >> r.Intn(8))
		}
		a, e := Decode(b)
		if e != api.OK {
			continue
		}
		decoded++
		if got, e := Encode(a); e != api.OK || !May(a) || !bytes.Equal(got, b) {
			t.Fatalf("Encode(Decode(%x)) is %x, %d", b, got, e)
		}
	}
	if decoded < 1000 {
		t.Errorf("only %d were decoded", decoded)
	}
}

// What the caller does to its memory later, or to an answer, is not to be seen elsewhere.
func TestSharesNothing(t *testing.T) {
	spans, marked := append(make([]api.Span, 0, 9), some().Spans...), append(make([]api.Span, 0, 9), some().Marked...)
	a := some()
	a.Spans, a.Marked = spans, marked
	b, _ := Encode(a)
	want := join(parts(some()))
	if !slices.Equal(spans[:9], append(some().Spans, make([]api.Span, 7)...)) || !slices.Equal(marked[:9], append(some().Marked, make([]api.Span, 7)...)) {
		t.Errorf("the spans that were given are %v and %v", spans[:9], marked[:9])
	}
	clear(spans)
	clear(marked)
	if !bytes.Equal(b, want) {
		t.Errorf("the encoding is %x, want %x", b, want)
	}
	clear(b[:cap(b)])
	if again, _ := Encode(some()); !bytes.Equal(again, want) {
		t.Errorf("Encode is %x, want %x", again, want)
	}

	given := append(make([]byte, 0, 100), want...)
	first, _ := Decode(given)
	if !bytes.Equal(given[:100], append(bytes.Clone(want), make([]byte, 100-len(want))...)) {
		t.Errorf("the bytes that were given are %x", given[:100])
	}
	second, _ := Decode(given)
	clear(given)
	first.Spans = append(first.Spans, list(1, 2, 3, 4, 5, 6)...)
	clear(first.Spans[:cap(first.Spans)])
	if !slices.Equal(first.Marked, some().Marked) || !same(second, some()) {
		t.Errorf("behind the changes, the answers are %v and %v", first, second)
	}

	c, _ := Challenge(64)
	clear(c[:cap(c)])
	c, _ = Challenge(64)
	given = append(make([]byte, 0, 9), c...)
	n, _ := Number(given)
	if !bytes.Equal(c, []byte{3, 0x40, 64}) || n != 64 || !bytes.Equal(given[:9], []byte{3, 0x40, 64, 0, 0, 0, 0, 0, 0}) {
		t.Errorf("the challenge is %x, its number %d, the bytes that were given %x", c, n, given[:9])
	}
}
