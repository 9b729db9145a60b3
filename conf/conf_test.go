package conf

import (
	"math"
	"reflect"
	"testing"

	"splittally/api"
)

// some tells a valid configuration. From Mss to Initial and on to Most, and from Mss to Burst, there is room on both sides, so that a field can go to the edges of its own range.
func some() api.Config {
	return api.Config{
		Bits: 32, One: 100, Ring: 64, Limit: 1 << 40, Room: 20000,
		Mss: 1000, Initial: 4000, Least: 3000, Most: 90000, Algo: api.Cubic,
		First: 300000, Grain: 1000, Cap: 5000000, Burst: 8000, Slowest: 500, Challenges: 5, Every: 70000,
	}
}

// field is a field of a configuration: its position, values that some may have there, and values of which none is valid there while all other fields of some stay valid. A negative number stands as what it is as a uint64.
type field struct {
	name    string
	in, out []uint64
}

// minus tells the uint64 that becomes -n where it is turned into an int.
func minus(n uint64) uint64 { return -n }

// fields tells the fields in the order of package api.
func fields() []field {
	const least, most = 1 << 63, math.MaxInt
	return []field{
		{"Bits", []uint64{1, 2, 63, 64}, []uint64{0, 65, 66, 128, 1<<32 + 1, most, minus(1), minus(64), least}},
		{"One", []uint64{0, 2, 3, 1<<32 + 1, 1 << 63, 1<<63 + 1, api.Top - 1, api.Top}, []uint64{1}},
		{"Ring", []uint64{4, 5, api.MaxRing - 1, api.MaxRing}, []uint64{0, 1, 3, api.MaxRing + 1, 1<<32 + 4, most, minus(1), minus(4), least}},
		{"Limit", []uint64{0, 1, api.MaxPn - 1, api.MaxPn}, []uint64{api.MaxPn + 1, 1 << 63, api.Top}},
		{"Room", []uint64{1, 2, api.MaxRoom - 1, api.MaxRoom}, []uint64{0, api.MaxRoom + 1, 1<<32 + 1, most, minus(1), minus(api.MaxRoom), least}},
		{"Mss", []uint64{1, 2, 1499, api.MaxBody}, []uint64{0, api.MaxBody + 1, 1 << 32, 1 << 63, 1<<63 + 1, api.Top}},
		{"Initial", []uint64{3000, 3001, 89999, 90000}, []uint64{0, 1, 2000, 2999, 90001, api.MaxWin, 1 << 63, api.Top}},
		{"Least", []uint64{2000, 2001, 3999, 4000}, []uint64{0, 1, 1000, 1999}},
		{"Most", []uint64{4000, 4001, api.MaxWin - 1, api.MaxWin}, []uint64{api.MaxWin + 1, 1 << 32, 1 << 63, api.Top}},
		{"Algo", []uint64{api.Reno, api.Cubic}, []uint64{0, 3, 4, 1<<32 + 1, most, minus(1), minus(2), least}},
		{"First", []uint64{1, 2, api.MaxTime - 1, api.MaxTime}, []uint64{0, api.MaxTime + 1, 1 << 63, api.Top}},
		{"Grain", []uint64{1, 2, 4999999, 5000000}, []uint64{0}},
		{"Cap", []uint64{1000, 1001, api.MaxTime - 1, api.MaxTime}, []uint64{0, 1, 999, api.MaxTime + 1, 1 << 63, api.Top}},
		{"Burst", []uint64{1000, 1001, api.MaxWin - 1, api.MaxWin}, []uint64{0, 1, 999, api.MaxWin + 1, 1 << 63, api.Top}},
		{"Slowest", []uint64{1, 2, api.MaxRate - 1, api.MaxRate}, []uint64{0, api.MaxRate + 1, 1 << 63, api.Top}},
		{"Challenges", []uint64{0, 1, api.MaxGrant - 1, api.MaxGrant}, []uint64{api.MaxGrant + 1, 1 << 32, most, minus(1), minus(api.MaxGrant), least}},
		{"Every", []uint64{1, 2, api.MaxTime - 1, api.MaxTime}, []uint64{0, api.MaxTime + 1, 1 << 63, api.Top}},
	}
}

// put stores n into the field of c at a position, counted from 0.
func put(c *api.Config, place int, n uint64) {
	v := reflect.ValueOf(c).Elem().Field(place)
	if v.CanInt() {
		v.SetInt(int64(n))
		return
	}
	v.SetUint(n)
}

// expect checks what Check and May tell of c.
func expect(t *testing.T, c api.Config, want int) {
	t.Helper()
	if got := Check(c); got != want {
		t.Errorf("Check(%+v) is %d, want %d", c, got, want)
	}
	if got := May(c); got != (want == 0) {
		t.Errorf("May(%+v) is %v, want %v", c, got, want == 0)
	}
}

// The table of these tests has the fields of package api in their order.
func TestP1101Positions(t *testing.T) {
	kind := reflect.TypeFor[api.Config]()
	l := fields()
	if kind.NumField() != len(l) {
		t.Fatalf("%d fields, want %d", kind.NumField(), len(l))
	}
	for i, f := range l {
		if kind.Field(i).Name != f.name {
			t.Errorf("field %d is %s, want %s", i+1, kind.Field(i).Name, f.name)
		}
	}
}

func TestP1101ZeroConfig(t *testing.T) {
	expect(t, api.Config{}, 1)
	expect(t, some(), 0)
}

func TestP1101Ranges(t *testing.T) {
	for i, f := range fields() {
		for _, n := range f.in {
			c := some()
			put(&c, i, n)
			expect(t, c, 0)
		}
		for _, n := range f.out {
			c := some()
			put(&c, i, n)
			expect(t, c, i+1)
		}
	}
}

// Of any set of fields that are not valid, the first one is told.
func TestP1101FirstOfMany(t *testing.T) {
	l := fields()
	for set := range 1 << len(l) {
		c, want := some(), 0
		for i := len(l) - 1; i >= 0; i-- {
			if set>>i&1 == 1 {
				put(&c, i, l[i].out[0])
				want = i + 1
			}
		}
		// An Initial of 0 is valid again beside a Least of 0: take one beyond Most.
		if set>>6&3 == 3 {
			put(&c, 6, api.Top)
		}
		if Check(c) != want || May(c) != (want == 0) {
			t.Fatalf("Check(%+v) is %d, May %v, want %d", c, Check(c), May(c), want)
		}
	}
}

// A field that bounds others is held against them: the windows against each other and against Mss.
func TestP1101Windows(t *testing.T) {
	for _, x := range []struct {
		mss, initial, least, most uint64
		want                      int
	}{
		{1, 2, 2, 2, 0},
		{1, 2, 1, 2, 8},
		{1, 2, 3, 3, 7},
		{1, 2, 2, 1, 7},
		{1, 0, 0, 0, 8},
		{2, 3, 3, 3, 8},
		{2, 4, 4, 4, 0},
		{3, 6, 6, 5, 7},
		{api.MaxBody, 3000, 3000, 3000, 0},
		{api.MaxBody, 3000, 2999, 3000, 8},
		{api.MaxBody, 2999, 2999, 2999, 8},
		{1000, 3000, 3001, 90000, 7},
		{1000, 90000, 2000, 89999, 7},
		{1000, 5000, 6000, 4000, 7},
		{1000, 4000, 6000, 4000, 7},
		{1000, 6000, 6000, 4000, 7},
		{1000, api.MaxWin, api.MaxWin, api.MaxWin, 0},
		{1000, api.MaxWin + 1, 2000, api.MaxWin, 7},
		{1000, api.MaxWin + 1, 2000, api.MaxWin + 1, 9},
		{1000, api.MaxWin + 1, api.MaxWin + 1, api.MaxWin + 1, 9},
		{1000, api.Top, api.Top, api.Top, 9},
		{1000, api.Top, api.Top, api.MaxWin, 7},
		{1000, api.Top, 0, api.Top, 8},
		{0, 0, 0, 0, 6},
		{1 << 63, 0, 0, 0, 6},
		{1<<63 + 1, 2, 2, 2, 6},
		{api.Top, api.Top, api.Top, api.Top, 6},
	} {
		c := some()
		c.Mss, c.Initial, c.Least, c.Most = x.mss, x.initial, x.least, x.most
		c.Burst = api.MaxWin
		expect(t, c, x.want)
	}
}

// All small windows, each held against the text of the promise.
func TestP1101SmallWindows(t *testing.T) {
	for set := range uint64(1 << 12) {
		c := some()
		c.Mss, c.Initial, c.Least, c.Most = set&7, set>>3&7, set>>6&7, set>>9&7
		want := 0
		switch {
		case c.Mss == 0:
			want = 6
		case c.Initial < c.Least || c.Initial > c.Most:
			want = 7
		case c.Least < c.Mss+c.Mss:
			want = 8
		}
		expect(t, c, want)
	}
}

// Cap goes from Grain, Burst from Mss, whatever these are.
func TestP1101Lower(t *testing.T) {
	for _, x := range []struct {
		grain, limit uint64
		want         int
	}{
		{1, 1, 0},
		{1, 0, 13},
		{2, 1, 13},
		{1, api.MaxTime, 0},
		{api.MaxTime, api.MaxTime, 0},
		{api.MaxTime, api.MaxTime - 1, 13},
		{api.MaxTime, api.MaxTime + 1, 13},
		{api.MaxTime + 1, api.MaxTime + 1, 12},
		{1 << 63, 1 << 63, 12},
		{api.Top, api.Top, 12},
		{api.Top, 0, 12},
		{0, 0, 12},
		{0, api.MaxTime, 12},
	} {
		c := some()
		c.Grain, c.Cap = x.grain, x.limit
		expect(t, c, x.want)
	}
	for _, x := range []struct {
		mss, burst uint64
		want       int
	}{
		{1, 1, 0},
		{1, 0, 14},
		{2, 1, 14},
		{1499, 1499, 0},
		{1499, 1498, 14},
		{api.MaxBody, api.MaxBody, 0},
		{api.MaxBody, api.MaxBody - 1, 14},
		{api.MaxBody, api.MaxWin, 0},
		{1, api.MaxWin + 1, 14},
		{0, 0, 6},
	} {
		c := some()
		c.Mss, c.Burst = x.mss, x.burst
		expect(t, c, x.want)
	}
}

// Grain has no upper edge of its own while Cap stays valid: beyond Cap, the fault is that of Cap.
func TestP1101GrainBeyondCap(t *testing.T) {
	for _, x := range []struct {
		grain uint64
		want  int
	}{{5000000, 0}, {5000001, 13}, {api.MaxTime, 13}, {api.MaxTime + 1, 12}, {api.Top, 12}} {
		c := some()
		c.Grain = x.grain
		expect(t, c, x.want)
	}
}

// One call decides: what the calls before it were told does not matter.
func TestP1102OneCall(t *testing.T) {
	var first []int
	var all []api.Config
	for i, f := range fields() {
		for _, n := range append(f.in, f.out...) {
			c := some()
			put(&c, i, n)
			all = append(all, c)
			first = append(first, Check(c))
		}
	}
	for i := len(all) - 1; i >= 0; i-- {
		if May(all[i]) != (first[i] == 0) || Check(all[i]) != first[i] {
			t.Errorf("of %+v: May %v, Check %d, at first %d", all[i], May(all[i]), Check(all[i]), first[i])
		}
	}
}
