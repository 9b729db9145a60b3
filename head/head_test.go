package head

import (
	"bytes"
	"encoding/binary"
	"encoding/hex"
	"math"
	"math/rand"
	"testing"

	"splittally/api"
)

// some tells an ordinary packet.
func some() api.Data {
	return api.Data{Pn: 5, Least: 3, Off: 64, Nonce: 0x0102030405060708, Ecn: api.Ect1, Body: []byte("hi")}
}

// same tells whether two packets are alike.
func same(a, b api.Data) bool {
	return a.Pn == b.Pn && a.Least == b.Least && a.Off == b.Off && a.Nonce == b.Nonce && a.Ecn == b.Ecn && bytes.Equal(a.Body, b.Body)
}

// long tells n in size bytes below the tag of that length, whether or not fewer bytes would do.
func long(n uint64, size int) []byte {
	switch size {
	case 1:
		return []byte{byte(n)}
	case 2:
		return binary.BigEndian.AppendUint16(nil, 1<<14|uint16(n))
	case 4:
		return binary.BigEndian.AppendUint32(nil, 2<<30|uint32(n))
	}
	return binary.BigEndian.AppendUint64(nil, 3<<62|n)
}

// fewest tells in how few bytes n can be told.
func fewest(n uint64) int {
	for _, x := range []int{1, 2, 4} {
		if n < 1<<(8*x-2) {
			return x
		}
	}
	return 8
}

// parts tells the fields of an encoding one by one: kind, Ecn, Pn, Least, Off, Nonce, length, Body.
func parts(d api.Data) [][]byte {
	n := uint64(len(d.Body))
	return [][]byte{
		{1}, {byte(d.Ecn)}, long(d.Pn, fewest(d.Pn)), long(d.Least, fewest(d.Least)), long(d.Off, fewest(d.Off)),
		binary.BigEndian.AppendUint64(nil, d.Nonce), long(n, fewest(n)), d.Body,
	}
}

// join tells the bytes of the fields one behind the other.
func join(l [][]byte) []byte {
	return bytes.Join(l, nil)
}

// numbers tells the edges of each length of an integer.
func numbers() []uint64 {
	return []uint64{0, 1, 63, 64, 1<<14 - 1, 1 << 14, 1<<30 - 1, 1 << 30, 1 << 32, api.MaxPn - api.MaxBody, api.MaxPn - 1, api.MaxPn}
}

// packets tells valid packets: each combination of edges, with bodies of all bytes, and draws from a fixed seed.
func packets() []api.Data {
	var l []api.Data
	r := rand.New(rand.NewSource(8))
	body := func(n int) []byte {
		b := make([]byte, n)
		r.Read(b)
		return b
	}
	for _, pn := range numbers() {
		for _, least := range numbers() {
			for _, off := range numbers() {
				n := []int{1, 2, 63, 64, 255, 256, 1499, 1500}[len(l)%8]
				if least > pn || off == api.MaxPn {
					continue
				}
				n = int(min(uint64(n), api.MaxPn-off))
				l = append(l, api.Data{Pn: pn, Least: least, Off: off, Nonce: r.Uint64(), Ecn: 1 + len(l)%3, Body: body(n)})
			}
		}
	}
	for range 500 {
		pn := r.Uint64() >> (2 + r.Intn(62))
		l = append(l, api.Data{
			Pn: pn, Least: pn >> r.Intn(64), Off: r.Uint64() >> (3 + r.Intn(61)), Nonce: r.Uint64() >> r.Intn(64),
			Ecn: 1 + r.Intn(3), Body: body(1 + r.Intn(1500)),
		})
	}
	return l
}

// checkError tells if b is decoded, or refused with another error or with something beside it, or if it is marked.
func checkError(t *testing.T, b []byte, want api.Errno) {
	t.Helper()
	if d, e := Decode(b); e != want || !same(d, api.Data{}) {
		t.Errorf("Decode of %x is %v, %d, want error %d", b, d, e, want)
	}
	if m, ok := Mark(b); ok || len(m) != 0 {
		t.Errorf("Mark of %x is %x, %v", b, m, ok)
	}
}

func TestP801Known(t *testing.T) {
	most := bytes.Repeat([]byte{0xab}, api.MaxBody)
	for _, x := range []struct {
		d    api.Data
		want string
	}{
		{some(), "0101050340400102030405060708026869"},
		{api.Data{Ecn: api.Ect0, Body: []byte{0}}, "010200000000000000000000000100"},
		{api.Data{Pn: 63, Least: 63, Off: 63, Nonce: api.Top, Ecn: api.Ce, Body: []byte{7}}, "01033f3f3fffffffffffffffff0107"},
		{api.Data{Pn: 1 << 14, Least: 64, Off: 1 << 30, Nonce: 9, Ecn: api.Ect0, Body: []byte{1, 2, 3}}, "0102800040004040c000000040000000000000000000000903010203"},
		{api.Data{Pn: api.MaxPn, Least: api.MaxPn, Off: api.MaxPn - 1, Nonce: 1 << 63, Ecn: api.Ect1, Body: []byte{255}}, "0101fffffffffffffffffffffffffffffffffffffffffffffffe800000000000000001ff"},
		{api.Data{Pn: 1, Off: 2, Nonce: 3, Ecn: api.Ect1, Body: most[:63]}, "01010100020000000000000003" + "3f" + hex.EncodeToString(most[:63])},
		{api.Data{Pn: 1, Off: 2, Nonce: 3, Ecn: api.Ect1, Body: most[:64]}, "01010100020000000000000003" + "4040" + hex.EncodeToString(most[:64])},
		{api.Data{Pn: 1, Off: 2, Nonce: 3, Ecn: api.Ect1, Body: most}, "01010100020000000000000003" + "45dc" + hex.EncodeToString(most)},
	} {
		b, e := Encode(x.d)
		if got := hex.EncodeToString(b); got != x.want || e != api.OK || !May(x.d) {
			t.Errorf("Encode(%v) is %s, %d, want %s; May is %v", x.d, got, e, x.want, May(x.d))
		}
		want, _ := hex.DecodeString(x.want)
		if d, e := Decode(want); !same(d, x.d) || e != api.OK {
			t.Errorf("Decode of %s is %v, %d, want %v", x.want, d, e, x.d)
		}
	}
}

func TestP801MayExactly(t *testing.T) {
	bodies := make([]byte, api.MaxBody+2)
	far := []uint64{1 << 62, 1<<62 + 1, 1<<63 - 1, 1 << 63, api.Top - api.MaxBody, api.Top - 1, api.Top}
	for _, pn := range append(numbers(), far...) {
		for _, least := range []uint64{0, pn - 1, pn, pn + 1, api.MaxPn, 1 << 62, api.Top} {
			for _, off := range append(numbers(), far...) {
				for _, n := range []int{0, 1, 2, 1499, 1500, 1501, 1502} {
					d := api.Data{Pn: pn, Least: least, Off: off, Ecn: api.Ect0, Body: bodies[:n]}
					// The bound on off alone is there because the sum may wrap around.
					want := pn <= api.MaxPn && least <= pn && n >= 1 && n <= 1500 && off <= api.MaxPn && off+uint64(n) <= api.MaxPn
					checkMay(t, d, want)
				}
			}
		}
	}
}

func TestP801MayEcn(t *testing.T) {
	for _, ecn := range []int{math.MinInt, -1 << 32, -256, -255, -3, -1, 0, 1, 2, 3, 4, 5, 255, 256, 257, 258, 259, 1 << 32, 1<<32 + 1, math.MaxInt} {
		d := some()
		d.Ecn = ecn
		checkMay(t, d, ecn >= 1 && ecn <= 3)
	}
}

// checkMay tells if d is valid and should not be, or the other way round, by May or by Encode.
func checkMay(t *testing.T, d api.Data, want bool) {
	t.Helper()
	if May(d) != want {
		t.Errorf("May of %d, %d, %d, %d and %d bytes is %v", d.Pn, d.Least, d.Off, d.Ecn, len(d.Body), !want)
	}
	b, e := Encode(d)
	if want && (e != api.OK || !bytes.Equal(b, join(parts(d)))) || !want && (e != api.ErrArg || len(b) != 0) {
		t.Errorf("Encode of %d, %d, %d, %d and %d bytes is %x, %d", d.Pn, d.Least, d.Off, d.Ecn, len(d.Body), b, e)
	}
}

func TestP801DecodeExamples(t *testing.T) {
	checkError(t, nil, api.ErrShort)
	checkError(t, []byte{}, api.ErrShort)
	checkError(t, []byte{2}, api.ErrKind)
}

func TestP801DecodeKind(t *testing.T) {
	for kind := range 256 {
		b := join(parts(some()))
		b[0] = byte(kind)
		if kind != api.KData {
			checkError(t, b[:1], api.ErrKind)
			checkError(t, b[:2], api.ErrKind)
			checkError(t, b, api.ErrKind)
			checkError(t, append(b, 0), api.ErrKind)
		}
	}
}

func TestP801DecodeEcn(t *testing.T) {
	for ecn := range 256 {
		b := join(parts(some()))
		b[1] = byte(ecn)
		if ecn < 1 || ecn > 3 {
			checkError(t, b[:2], api.ErrForm)
			checkError(t, b, api.ErrForm)
			checkError(t, append(b, 0), api.ErrForm)
			continue
		}
		checkError(t, b[:2], api.ErrShort)
		if d, e := Decode(b); e != api.OK || d.Ecn != ecn {
			t.Errorf("Decode of the codepoint %d is %d, %d", ecn, d.Ecn, e)
		}
	}
}

// Each encoding, cut at each place and with bytes behind it.
func TestP801DecodeShortAndLong(t *testing.T) {
	for i, d := range packets() {
		b := join(parts(d))
		if i%10 == 0 {
			for n := range b {
				checkError(t, b[:n], api.ErrShort)
			}
		}
		checkError(t, append(bytes.Clone(b), 0), api.ErrLong)
		checkError(t, append(bytes.Clone(b), b...), api.ErrLong)
	}
}

// Each integer in each length that it needs not have, with all and with nothing behind it.
func TestP801DecodeNotShortest(t *testing.T) {
	for _, d := range packets() {
		for i, n := range map[int]uint64{2: d.Pn, 3: d.Least, 4: d.Off, 6: uint64(len(d.Body))} {
			for _, s := range []int{1, 2, 4, 8} {
				if s <= fewest(n) {
					continue
				}
				l := parts(d)
				l[i] = long(n, s)
				checkError(t, join(l), api.ErrForm)
				checkError(t, join(l[:i+1]), api.ErrForm)
				cut := join(l[:i+1])
				checkError(t, cut[:len(cut)-1], api.ErrShort)
			}
		}
	}
}

func TestP801DecodeLeast(t *testing.T) {
	for _, pn := range numbers() {
		for _, least := range append(numbers(), pn+1) {
			if least > api.MaxPn {
				continue
			}
			d := some()
			d.Pn, d.Least = pn, least
			l := parts(d)
			if least > pn {
				checkError(t, join(l), api.ErrForm)
				checkError(t, join(l[:4]), api.ErrForm)
				continue
			}
			checkError(t, join(l[:4]), api.ErrShort)
			if got, e := Decode(join(l)); !same(got, d) || e != api.OK {
				t.Errorf("Decode of Least %d of %d is %v, %d", least, pn, got, e)
			}
		}
	}
}

// The length counts before the bytes that it tells of are there.
func TestP801DecodeLength(t *testing.T) {
	for _, off := range []uint64{0, 64, api.MaxPn - 1501, api.MaxPn - 1500, api.MaxPn - 1499, api.MaxPn - 2, api.MaxPn - 1, api.MaxPn} {
		for _, n := range []uint64{0, 1, 2, 3, 63, 64, 1499, 1500, 1501, 1502, 1 << 14, 1 << 30, 1 << 31, 1 << 32, 1<<32 + 1, api.MaxPn - 1, api.MaxPn} {
			d := some()
			d.Off, d.Body = off, make([]byte, min(n, 2000))
			l := parts(d)
			l[6] = long(n, fewest(n))
			if n < 1 || n > 1500 || n > api.MaxPn-off {
				checkError(t, join(l), api.ErrForm)
				checkError(t, join(l[:7]), api.ErrForm)
				continue
			}
			checkError(t, join(l[:7]), api.ErrShort)
			if got, e := Decode(join(l)); !same(got, d) || e != api.OK {
				t.Errorf("Decode of %d bytes at %d is %v, %d", n, off, got, e)
			}
		}
	}
}

// Of two fields with errors, the first one counts.
func TestP801DecodeFirstError(t *testing.T) {
	wrong := []struct {
		field int
		b     []byte
		want  api.Errno
	}{
		{0, []byte{2}, api.ErrKind},
		{1, []byte{4}, api.ErrForm},
		{2, []byte{0x40, 5}, api.ErrForm},
		{3, []byte{6}, api.ErrForm},
		{4, []byte{0x40, 1}, api.ErrForm},
		{6, []byte{0}, api.ErrForm},
		{7, []byte("h"), api.ErrShort},
		{7, []byte("hip"), api.ErrLong},
	}
	for i, x := range wrong {
		for _, y := range wrong[i+1:] {
			if x.field == y.field {
				continue
			}
			l := parts(some())
			l[x.field], l[y.field] = x.b, y.b
			checkError(t, join(l), x.want)
			// The later field does not even have to be there.
			checkError(t, join(l[:x.field+1]), x.want)
		}
	}
}

func TestP802Mark(t *testing.T) {
	for _, d := range packets() {
		b := join(parts(d))
		given := bytes.Clone(b)
		m, ok := Mark(given)
		want := bytes.Clone(b)
		want[1] = api.Ce
		if !ok || !bytes.Equal(m, want) {
			t.Errorf("Mark of %x is %x, %v", b, m, ok)
		}
		if !bytes.Equal(given, b) {
			t.Errorf("Mark of %x left %x", b, given)
		}
		if again, ok := Mark(m); !ok || !bytes.Equal(again, want) {
			t.Errorf("Mark of the marked %x is %x, %v", m, again, ok)
		}
	}
}

// The other datagrams are no packets, even if they are as long.
func TestP802MarkOthers(t *testing.T) {
	b := join(parts(some()))
	for _, kind := range []byte{0, api.KAck, api.KChallenge, 255} {
		other := bytes.Clone(b)
		other[0] = kind
		if m, ok := Mark(other); ok || len(m) != 0 {
			t.Errorf("Mark of %x is %x, %v", other, m, ok)
		}
	}
}

func TestP802EcnAndCoin(t *testing.T) {
	if Ecn(true) != api.Ect1 || Ecn(false) != api.Ect0 {
		t.Errorf("Ecn is %d and %d", Ecn(true), Ecn(false))
	}
	for _, want := range []bool{true, false} {
		if coin, ok := Coin(Ecn(want)); coin != want || !ok {
			t.Errorf("Coin(Ecn(%v)) is %v, %v", want, coin, ok)
		}
	}
	for ecn := -600; ecn <= 600; ecn++ {
		coin, ok := Coin(ecn)
		if coin != (ecn == 1) || ok != (ecn == 1 || ecn == 2) {
			t.Errorf("Coin(%d) is %v, %v", ecn, coin, ok)
		}
	}
	for _, ecn := range []int{math.MinInt, math.MinInt + 1, 1<<32 + 1, 1<<32 + 2, math.MaxInt} {
		if coin, ok := Coin(ecn); coin || ok {
			t.Errorf("Coin(%d) is %v, %v", ecn, coin, ok)
		}
	}
}

func TestP803RoundTrip(t *testing.T) {
	for _, d := range packets() {
		b, e := Encode(d)
		if e != api.OK || !May(d) || !bytes.Equal(b, join(parts(d))) {
			t.Errorf("Encode(%v) is %x, %d", d, b, e)
		}
		if got, e := Decode(b); !same(got, d) || e != api.OK {
			t.Errorf("Decode(Encode(%v)) is %v, %d", d, got, e)
		}
	}
}

func TestP803MarkErasesTheCoin(t *testing.T) {
	for _, d := range packets() {
		var marked [][]byte
		for _, coin := range []bool{true, false} {
			d.Ecn = Ecn(coin)
			b, _ := Encode(d)
			m, _ := Mark(b)
			marked = append(marked, m)
			got, e := Decode(m)
			if coin, ok := Coin(got.Ecn); e != api.OK || coin || ok {
				t.Errorf("the coin of the marked %v is %v, %v, %d", d, coin, ok, e)
			}
			want := d
			want.Ecn = api.Ce
			if !same(got, want) {
				t.Errorf("%v is marked to %v", d, got)
			}
		}
		if !bytes.Equal(marked[0], marked[1]) {
			t.Errorf("with one coin and the other, %v is marked to %x and %x", d, marked[0], marked[1])
		}
	}
}

// Whatever bytes are decoded are those of the packet that they are decoded to, and that packet is valid.
func TestP803OneEncoding(t *testing.T) {
	r := rand.New(rand.NewSource(9))
	decoded := 0
	for range 200000 {
		d := some()
		d.Pn, d.Least, d.Off = r.Uint64()>>(2+r.Intn(62)), uint64(r.Intn(3)), r.Uint64()>>(2+r.Intn(62))
		d.Body = make([]byte, 1+r.Intn(4))
		b := join(parts(d))
		for range r.Intn(4) {
			b[r.Intn(len(b))] = byte(r.Intn(256) >> r.Intn(8))
		}
		d, e := Decode(b)
		if e != api.OK {
			continue
		}
		decoded++
		if got, e := Encode(d); e != api.OK || !May(d) || !bytes.Equal(got, b) {
			t.Fatalf("Encode(Decode(%x)) is %x, %d", b, got, e)
		}
	}
	if decoded < 1000 {
		t.Errorf("only %d were decoded", decoded)
	}
}

// What the caller does to its bytes later, or to an answer, is not to be seen elsewhere.
func TestSharesNothing(t *testing.T) {
	for _, spare := range []int{0, 100} {
		body := append(make([]byte, 0, 2+spare), "hi"...)
		d := some()
		d.Body = body
		b, _ := Encode(d)
		want := bytes.Clone(b)
		clear(body)
		if !bytes.Equal(b, want) {
			t.Errorf("the encoding is %x, want %x", b, want)
		}
		if again, _ := Encode(some()); !bytes.Equal(again, want) {
			t.Errorf("Encode is %x, want %x", again, want)
		}
		given := append(make([]byte, 0, len(b)+spare), b...)
		got, _ := Decode(given)
		m, _ := Mark(given)
		marked := bytes.Clone(m)
		clear(got.Body[:cap(got.Body)])
		got, _ = Decode(given)
		clear(m[:cap(m)])
		if !bytes.Equal(given[:cap(given)], append(bytes.Clone(want), make([]byte, cap(given)-len(want))...)) {
			t.Errorf("the bytes that were given are %x", given[:cap(given)])
		}
		m, _ = Mark(given)
		clear(given)
		if !same(got, some()) || !bytes.Equal(m, marked) {
			t.Errorf("behind the change of %x, the answers are %v and %x", want, got, m)
		}
	}
}
