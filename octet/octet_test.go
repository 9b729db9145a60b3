package octet

import (
	"bytes"
	"encoding/binary"
	"encoding/hex"
	"math"
	"math/rand"
	"testing"

	"splittally/api"
)

// words tells the edges of the range and of each length, and draws of every bit length from a fixed seed.
func words() []uint64 {
	l := []uint64{
		0, 1, 2, 62, 63, 64, 65, 255, 256, 1<<14 - 1, 1 << 14, 1<<14 + 1, 1 << 16, 1<<30 - 1, 1 << 30, 1<<30 + 1, 1<<32 - 1, 1 << 32,
		api.MaxPn - 1, api.MaxPn, api.MaxPn + 1, 1<<63 - 1, 1 << 63, 3 << 62, api.Top - 1, api.Top,
	}
	r := rand.New(rand.NewSource(8))
	for range 20 {
		for n := range 64 {
			l = append(l, r.Uint64()>>n)
		}
	}
	return l
}

// encodings tells all encodings of n, the shortest first: n below the tag of its length, for each length that it fits.
func encodings(n uint64) [][]byte {
	var l [][]byte
	if n < 1<<6 {
		l = append(l, []byte{byte(n)})
	}
	if n < 1<<14 {
		l = append(l, binary.BigEndian.AppendUint16(nil, 0x4000|uint16(n)))
	}
	if n < 1<<30 {
		l = append(l, binary.BigEndian.AppendUint32(nil, 0x80000000|uint32(n)))
	}
	if n < 1<<62 {
		l = append(l, binary.BigEndian.AppendUint64(nil, 0xc000000000000000|n))
	}
	return l
}

func unhex(t *testing.T, s string) []byte {
	t.Helper()
	b, err := hex.DecodeString(s)
	if err != nil {
		t.Fatal(err)
	}
	return b
}

// rest tells all bytes that are left, and reads them.
func rest(t *testing.T, r *Reader) []byte {
	t.Helper()
	n := r.Left()
	b, e := r.Take(n)
	if e != api.OK || len(b) != n || r.Left() != 0 {
		t.Errorf("Take of the %d bytes that are left: %x, %d, then %d are left", n, b, e, r.Left())
	}
	return b
}

func TestP601SizeAndPutKnown(t *testing.T) {
	for _, x := range []struct {
		n    uint64
		want string
	}{
		{0, "00"},
		{1, "01"},
		{62, "3e"},
		{63, "3f"},
		{64, "4040"},
		{255, "40ff"},
		{256, "4100"},
		{16383, "7fff"},
		{16384, "80004000"},
		{0x01020304, "81020304"},
		{1<<30 - 1, "bfffffff"},
		{1 << 30, "c000000040000000"},
		{0x0102030405060708, "c102030405060708"},
		{api.MaxPn - 1, "fffffffffffffffe"},
		{api.MaxPn, "ffffffffffffffff"},
	} {
		b, ok := Put(x.n)
		if got := hex.EncodeToString(b); got != x.want || !ok {
			t.Errorf("Put(%d) is %s, %v, want %s", x.n, got, ok, x.want)
		}
		if got := Size(x.n); got != len(x.want)/2 {
			t.Errorf("Size(%d) is %d, want %d", x.n, got, len(x.want)/2)
		}
	}
}

func TestP601TooGreat(t *testing.T) {
	for _, n := range []uint64{api.MaxPn + 1, api.MaxPn + 2, 1<<63 - 1, 1 << 63, 3 << 62, api.Top - 1, api.Top} {
		if b, ok := Put(n); len(b) != 0 || ok {
			t.Errorf("Put(%d) is %x, %v", n, b, ok)
		}
		if got := Size(n); got != 0 {
			t.Errorf("Size(%d) is %d", n, got)
		}
	}
}

func TestP601SizeAndPutExact(t *testing.T) {
	for _, n := range words() {
		if n > api.MaxPn {
			continue
		}
		want := encodings(n)[0]
		if b, ok := Put(n); !bytes.Equal(b, want) || !ok {
			t.Errorf("Put(%d) is %x, %v, want %x", n, b, ok, want)
		}
		if got := Size(n); got != len(want) {
			t.Errorf("Size(%d) is %d, want %d", n, got, len(want))
		}
	}
}

func TestP601Eight(t *testing.T) {
	if got := Eight(0x0102030405060708); !bytes.Equal(got, []byte{1, 2, 3, 4, 5, 6, 7, 8}) {
		t.Errorf("Eight(0102030405060708) is %x", got)
	}
	for _, w := range words() {
		if got, want := Eight(w), binary.BigEndian.AppendUint64(nil, w); !bytes.Equal(got, want) {
			t.Errorf("Eight(%x) is %x, want %x", w, got, want)
		}
	}
}

// What the caller writes into one answer is not to be seen in the next.
func TestP601AnswersAreNew(t *testing.T) {
	for _, n := range words() {
		first, _ := Put(n)
		want := bytes.Clone(first)
		clear(first[:cap(first)])
		if got, _ := Put(n); !bytes.Equal(got, want) {
			t.Errorf("Put(%d) is %x, want %x", n, got, want)
		}
		first = Eight(n)
		want = bytes.Clone(first)
		clear(first[:cap(first)])
		if got := Eight(n); !bytes.Equal(got, want) {
			t.Errorf("Eight(%d) is %x, want %x", n, got, want)
		}
	}
}

func TestP602Num(t *testing.T) {
	for _, x := range []struct {
		in   string
		n    uint64
		left int
	}{
		{"00", 0, 0},
		{"3f", 63, 0},
		{"3f40", 63, 1},
		{"4040", 64, 0},
		{"404000", 64, 1},
		{"7fff", 16383, 0},
		{"80004000", 16384, 0},
		{"bfffffffff", 1<<30 - 1, 1},
		{"c000000040000000", 1 << 30, 0},
		{"c1020304050607080910", 0x0102030405060708, 2},
		{"ffffffffffffffff", api.MaxPn, 0},
	} {
		b := unhex(t, x.in)
		r := New(b)
		if n, e := r.Num(); n != x.n || e != api.OK || r.Left() != x.left {
			t.Errorf("Num of %s is %d, %d and %d are left, want %d and %d", x.in, n, e, r.Left(), x.n, x.left)
		}
		if got := rest(t, r); !bytes.Equal(got, b[len(b)-x.left:]) {
			t.Errorf("behind Num of %s comes %x", x.in, got)
		}
	}
}

// Too few bytes go before a length that is too great, and neither reads anything.
func TestP602NumErrors(t *testing.T) {
	for _, x := range []struct {
		in   string
		want api.Errno
	}{
		{"", api.ErrShort},
		{"40", api.ErrShort},
		{"7f", api.ErrShort},
		{"80", api.ErrShort},
		{"8000", api.ErrShort},
		{"bfffff", api.ErrShort},
		{"c0", api.ErrShort},
		{"c0000000", api.ErrShort},
		{"c0000000000000", api.ErrShort},
		{"ffffffffffffff", api.ErrShort},
		{"4000", api.ErrForm},
		{"403f", api.ErrForm},
		{"403f00", api.ErrForm},
		{"80000000", api.ErrForm},
		{"8000003f", api.ErrForm},
		{"80000040", api.ErrForm},
		{"80003fff", api.ErrForm},
		{"c000000000000000", api.ErrForm},
		{"c00000000000003f", api.ErrForm},
		{"c000000000003fff", api.ErrForm},
		{"c000000000004000", api.ErrForm},
		{"c00000003fffffff", api.ErrForm},
		{"c00000003fffffff07", api.ErrForm},
	} {
		b := unhex(t, x.in)
		r := New(b)
		for range 2 {
			if n, e := r.Num(); n != 0 || e != x.want || r.Left() != len(b) {
				t.Errorf("Num of %s is %d, %d and %d are left, want error %d", x.in, n, e, r.Left(), x.want)
			}
		}
		if got := rest(t, r); !bytes.Equal(got, b) {
			t.Errorf("behind a failed Num of %s comes %x", x.in, got)
		}
	}
}

// Each encoding of each number, cut at each place.
func TestP602NumCut(t *testing.T) {
	for _, n := range words() {
		for i, b := range encodings(n) {
			for cut := range len(b) {
				r := New(b[:cut])
				if got, e := r.Num(); got != 0 || e != api.ErrShort || r.Left() != cut {
					t.Errorf("Num of %x is %d, %d and %d are left", b[:cut], got, e, r.Left())
				}
			}
			want, err, left := n, api.OK, 0
			if i > 0 {
				want, err, left = 0, api.ErrForm, len(b)
			}
			r := New(b)
			if got, e := r.Num(); got != want || e != err || r.Left() != left {
				t.Errorf("Num of %x is %d, %d and %d are left, want %d, %d and %d", b, got, e, r.Left(), want, err, left)
			}
		}
	}
}

func TestP602Word(t *testing.T) {
	for _, w := range words() {
		b := binary.BigEndian.AppendUint64(nil, w)
		for _, behind := range [][]byte{nil, {7}, b} {
			r := New(append(bytes.Clone(b), behind...))
			if got, e := r.Word(); got != w || e != api.OK || r.Left() != len(behind) {
				t.Errorf("Word of %x is %x, %d and %d are left", b, got, e, r.Left())
			}
			if got := rest(t, r); !bytes.Equal(got, behind) {
				t.Errorf("behind Word comes %x, want %x", got, behind)
			}
		}
	}
}

func TestP602WordShort(t *testing.T) {
	for n := range 8 {
		b := []byte{1, 2, 3, 4, 5, 6, 7}[:n]
		r := New(b)
		for range 2 {
			if w, e := r.Word(); w != 0 || e != api.ErrShort || r.Left() != n {
				t.Errorf("Word of %d bytes is %x, %d and %d are left", n, w, e, r.Left())
			}
		}
		if got := rest(t, r); !bytes.Equal(got, b) {
			t.Errorf("behind a failed Word of %x comes %x", b, got)
		}
	}
}

func TestP602Take(t *testing.T) {
	b := []byte{1, 2, 3, 4, 5}
	for first := range 6 {
		for second := range 6 - first {
			r := New(b)
			if got, e := r.Take(first); !bytes.Equal(got, b[:first]) || e != api.OK || r.Left() != 5-first {
				t.Errorf("Take(%d) is %x, %d and %d are left", first, got, e, r.Left())
			}
			if got, e := r.Take(second); !bytes.Equal(got, b[first:first+second]) || e != api.OK || r.Left() != 5-first-second {
				t.Errorf("Take(%d) behind %d bytes is %x, %d and %d are left", second, first, got, e, r.Left())
			}
		}
	}
}

func TestP602TakeErrors(t *testing.T) {
	for _, b := range [][]byte{nil, {}, {1}, {1, 2, 3, 4, 5}} {
		for _, x := range []struct {
			n    int
			want api.Errno
		}{
			{-1, api.ErrArg},
			{-6, api.ErrArg},
			{math.MinInt, api.ErrArg},
			{len(b) + 1, api.ErrShort},
			{len(b) + 2, api.ErrShort},
			{math.MaxInt, api.ErrShort},
		} {
			r := New(b)
			if got, e := r.Take(x.n); len(got) != 0 || e != x.want || r.Left() != len(b) {
				t.Errorf("Take(%d) of %x is %x, %d and %d are left, want error %d", x.n, b, got, e, r.Left(), x.want)
			}
			if got := rest(t, r); !bytes.Equal(got, b) {
				t.Errorf("behind a failed Take(%d) of %x comes %x", x.n, b, got)
			}
		}
	}
}

// At the end nothing more comes, but nothing still can be taken.
func TestP602End(t *testing.T) {
	exhausted := New([]byte{1, 2})
	exhausted.Take(2)
	for _, r := range []*Reader{New(nil), New([]byte{}), exhausted} {
		if n, e := r.Num(); n != 0 || e != api.ErrShort {
			t.Errorf("Num is %d, %d", n, e)
		}
		if w, e := r.Word(); w != 0 || e != api.ErrShort {
			t.Errorf("Word is %d, %d", w, e)
		}
		if b, e := r.Take(1); len(b) != 0 || e != api.ErrShort {
			t.Errorf("Take(1) is %x, %d", b, e)
		}
		if b, e := r.Take(0); len(b) != 0 || e != api.OK {
			t.Errorf("Take(0) is %x, %d", b, e)
		}
		if r.Left() != 0 {
			t.Errorf("%d are left", r.Left())
		}
	}
}

func TestP602Nil(t *testing.T) {
	var r *Reader
	if n, e := r.Num(); n != 0 || e != api.ErrArg {
		t.Errorf("Num is %d, %d", n, e)
	}
	if w, e := r.Word(); w != 0 || e != api.ErrArg {
		t.Errorf("Word is %d, %d", w, e)
	}
	for _, n := range []int{math.MinInt, -1, 0, 1, 8, math.MaxInt} {
		if b, e := r.Take(n); len(b) != 0 || e != api.ErrArg {
			t.Errorf("Take(%d) is %x, %d", n, b, e)
		}
	}
	if r.Left() != 0 {
		t.Errorf("%d are left", r.Left())
	}
}

// The reader keeps no reference to the bytes, reads nothing of the spare capacity behind them, and changes neither.
func TestP602KeepsAndChangesNoArgument(t *testing.T) {
	whole := []byte{0x40, 0x40, 5, 6, 7, 8}
	r := New(whole[:4])
	if r.Left() != 4 {
		t.Errorf("%d are left, want 4", r.Left())
	}
	for i := range whole {
		whole[i] = 0xff
	}
	if n, e := r.Num(); n != 64 || e != api.OK {
		t.Errorf("Num is %d, %d, want 64", n, e)
	}
	if got := rest(t, r); !bytes.Equal(got, []byte{5, 6}) {
		t.Errorf("then comes %x, want 0506", got)
	}
	if !bytes.Equal(whole, bytes.Repeat([]byte{0xff}, 6)) {
		t.Errorf("the bytes became %x", whole)
	}
}

// What the caller writes into the bytes that it took, or appends to them, is not to be seen in what comes behind.
func TestP602TakenBytesAreNew(t *testing.T) {
	source := []byte{1, 2, 3, 4, 5, 6}
	r := New(source)
	first, _ := r.Take(2)
	second, _ := r.Take(2)
	first = append(first, 99, 99, 99, 99)
	clear(first)
	second = append(second, 77, 77)
	clear(first[:cap(first)])
	if !bytes.Equal(second, []byte{3, 4, 77, 77}) {
		t.Errorf("the second bytes became %x", second)
	}
	if got := rest(t, r); !bytes.Equal(got, []byte{5, 6}) {
		t.Errorf("behind them comes %x, want 0506", got)
	}
	if !bytes.Equal(source, []byte{1, 2, 3, 4, 5, 6}) {
		t.Errorf("the source became %x", source)
	}
}

// Two readers of the same bytes do not move each other.
func TestP602ReadersAreIndependent(t *testing.T) {
	b := []byte{1, 2, 3}
	first, second := New(b), New(b)
	first.Take(2)
	if first.Left() != 1 || second.Left() != 3 {
		t.Errorf("%d and %d are left, want 1 and 3", first.Left(), second.Left())
	}
}

// Numbers, words and bytes, one behind the other, come back as they were put.
func TestP603RoundTrip(t *testing.T) {
	var b []byte
	l := words()
	for _, n := range l {
		encoded, _ := Put(n)
		b = append(b, encoded...)
		b = append(b, Eight(n)...)
		b = append(b, byte(n))
	}
	r := New(b)
	for _, n := range l {
		if n <= api.MaxPn {
			if got, e := r.Num(); got != n || e != api.OK {
				t.Fatalf("Num is %d, %d, want %d", got, e, n)
			}
		}
		if got, e := r.Word(); got != n || e != api.OK {
			t.Fatalf("Word is %d, %d, want %d", got, e, n)
		}
		if got, e := r.Take(1); e != api.OK || got[0] != byte(n) {
			t.Fatalf("Take is %x, %d, want %x", got, e, byte(n))
		}
	}
	if r.Left() != 0 {
		t.Errorf("%d are left", r.Left())
	}
}

// checkOne checks that what Num reads from b, if anything, is the one encoding that Put knows for the number.
func checkOne(t *testing.T, b []byte) {
	t.Helper()
	r := New(b)
	n, e := r.Num()
	if e != api.OK {
		return
	}
	if want, ok := Put(n); !ok || !bytes.Equal(b[:len(b)-r.Left()], want) {
		t.Errorf("Num of %x is %d, which Put encodes as %x, %v", b, n, want, ok)
	}
}

func TestP603OneEncoding(t *testing.T) {
	for w := range 1 << 16 {
		checkOne(t, binary.BigEndian.AppendUint16(nil, uint16(w)))
	}
	r := rand.New(rand.NewSource(9))
	for range 100000 {
		// Few bits beside the two of the length, so that numbers next to the edges of the shorter lengths are drawn often.
		w := r.Uint64() & (3 << 62)
		w |= r.Uint64() >> 2 >> r.Intn(62)
		checkOne(t, binary.BigEndian.AppendUint64(nil, w))
		short := r.Uint32() & (3 << 30)
		short |= r.Uint32() >> 2 >> r.Intn(30)
		checkOne(t, binary.BigEndian.AppendUint32(nil, short))
	}
}

// Of all one-byte and two-byte encodings each yields a number of its own, and together they yield all up to 2^14 - 1.
func TestP603EveryShortNumberOnce(t *testing.T) {
	seen := make(map[uint64]int)
	for first := range 256 {
		if n, e := New([]byte{byte(first)}).Num(); e == api.OK {
			seen[n]++
		}
		for second := range 256 {
			r := New([]byte{byte(first), byte(second)})
			if n, e := r.Num(); e == api.OK && r.Left() == 0 {
				seen[n]++
			}
		}
	}
	if len(seen) != 1<<14 {
		t.Errorf("%d numbers, want %d", len(seen), 1<<14)
	}
	for n := range uint64(1 << 14) {
		if seen[n] != 1 {
			t.Errorf("%d has %d encodings", n, seen[n])
		}
	}
}
