package vary_test

import (
	"bytes"
	"math"
	"math/rand"
	"slices"
	"testing"

	"probate/api"
	"probate/vary"
)

// row is a row of bytes that all go on, and others behind.
func row(goOn int, behind ...byte) []byte {
	return append(bytes.Repeat([]byte{128}, goOn), behind...)
}

// spelled works a number's bytes out by division, as the chapter's words say it.
func spelled(n uint64) []byte {
	var out []byte
	for {
		out = append(out, byte(n%128))
		n /= 128
		if n == 0 {
			break
		}
	}
	for i := range out[:len(out)-1] {
		out[i] += 128
	}
	return out
}

// told works Take's answer out clause by clause, as P1.2 says it.
func told(b []byte) (uint64, int, api.Errno) {
	k := slices.IndexFunc(b, func(c byte) bool { return c < 128 })
	switch {
	case k < 0 && len(b) < 10:
		return 0, 0, api.ErrShort
	case k < 0 || k > 9 || k == 9 && b[k] > 1:
		return 0, 0, api.ErrLong
	case k > 0 && b[k] == 0:
		return 0, 0, api.ErrForm
	}
	n, weight := uint64(0), uint64(1)
	for _, c := range b[:k+1] {
		n += uint64(c%128) * weight
		weight *= 128
	}
	return n, k + 1, api.OK
}

// edges are numbers at which something might change: powers of two, of 128, and their neighbours.
func edges() []uint64 {
	l := []uint64{0, 1, 2, 5, 100, 300, 1000, 65535, 1000000, math.MaxInt64, math.MaxUint64 - 1, math.MaxUint64}
	for i := range 64 {
		l = append(l, 1<<i-1, 1<<i, 1<<i+1, ^uint64(1<<i))
	}
	return l
}

// some are edges, and numbers of all sizes, the same ones each time.
func some() []uint64 {
	l := edges()
	r := rand.New(rand.NewSource(1))
	for range 20000 {
		l = append(l, r.Uint64()>>r.Intn(64))
	}
	return l
}

// P1.1: the bytes of ordinary numbers, and of the least and greatest ones of each size.
func TestPut(t *testing.T) {
	for _, c := range []struct {
		n uint64
		b []byte
	}{
		{0, []byte{0}},
		{1, []byte{1}},
		{42, []byte{42}},
		{127, []byte{127}},
		{128, []byte{128, 1}},
		{129, []byte{129, 1}},
		{255, []byte{255, 1}},
		{256, []byte{128, 2}},
		{300, []byte{172, 2}},
		{1<<14 - 1, []byte{255, 127}},
		{1 << 14, []byte{128, 128, 1}},
		{1<<21 - 1, []byte{255, 255, 127}},
		{1 << 21, []byte{128, 128, 128, 1}},
		{1<<32 - 1, []byte{255, 255, 255, 255, 15}},
		{1<<63 - 1, []byte{255, 255, 255, 255, 255, 255, 255, 255, 127}},
		{1 << 63, []byte{128, 128, 128, 128, 128, 128, 128, 128, 128, 1}},
		{1<<64 - 1, []byte{255, 255, 255, 255, 255, 255, 255, 255, 255, 1}},
	} {
		if b := vary.Put(c.n); !bytes.Equal(b, c.b) {
			t.Errorf("Put(%d): %v, not %v", c.n, b, c.b)
		}
	}
}

// P1.1: a number has a byte for each seven bits that it needs: at 128, 128 times 128, and so on, it has one more.
func TestPutGrowsAtEachSevenBits(t *testing.T) {
	for size := 1; size <= 9; size++ {
		least := uint64(1) << (7 * size)
		if k := len(vary.Put(least - 1)); k != size {
			t.Errorf("Put(%d) has %d bytes, not %d", least-1, k, size)
		}
		if k := len(vary.Put(least)); k != size+1 {
			t.Errorf("Put(%d) has %d bytes, not %d", least, k, size+1)
		}
	}
}

// P1.1: the same as the chapter's words, worked out in another way.
func TestPutAsSpelled(t *testing.T) {
	for _, n := range some() {
		if b := vary.Put(n); !bytes.Equal(b, spelled(n)) {
			t.Fatalf("Put(%d): %v, not %v", n, b, spelled(n))
		}
	}
}

// P1.2: each error, at its edges, with zero values beside it (R2).
func TestTakeErrors(t *testing.T) {
	for _, c := range []struct {
		name string
		b    []byte
		e    api.Errno
	}{
		{"none", nil, api.ErrShort},
		{"empty", []byte{}, api.ErrShort},
		{"one that goes on", row(1), api.ErrShort},
		{"the greatest that goes on", []byte{255}, api.ErrShort},
		{"300 cut", []byte{172}, api.ErrShort},
		{"eight that go on", row(8), api.ErrShort},
		{"nine that go on", row(9), api.ErrShort},
		{"ten that go on", row(10), api.ErrLong},
		{"eleven that go on", row(11), api.ErrLong},
		{"many that go on", row(1000), api.ErrLong},
		{"ten that go on, and an end", row(10, 0), api.ErrLong},
		{"ten that go on, and another end", row(10, 1), api.ErrLong},
		{"many that go on, and an end", row(100, 1), api.ErrLong},
		{"2 at place 9", row(9, 2), api.ErrLong},
		{"127 at place 9", row(9, 127), api.ErrLong},
		{"2 at place 9, and more", row(9, 2, 0, 5), api.ErrLong},
		{"the greatest number and one bit", append(bytes.Repeat([]byte{255}, 9), 3), api.ErrLong},
		{"0 at place 1", row(1, 0), api.ErrForm},
		{"0 at place 1, behind bits", []byte{255, 0}, api.ErrForm},
		{"0 at place 1, and more", row(1, 0, 1), api.ErrForm},
		{"0 at place 2", []byte{172, 130, 0}, api.ErrForm},
		{"0 at place 8", row(8, 0), api.ErrForm},
		{"0 at place 9", row(9, 0), api.ErrForm},
		{"0 at place 9, and more", row(9, 0, 200), api.ErrForm},
	} {
		if n, k, e := vary.Take(c.b); n != 0 || k != 0 || e != c.e {
			t.Errorf("%s: %d, %d, %d, not 0, 0, %d", c.name, n, k, e, c.e)
		}
	}
}

// P1.2: numbers, alone and with other bytes behind.
func TestTakeNumbers(t *testing.T) {
	for _, c := range []struct {
		b []byte
		n uint64
		k int
	}{
		{[]byte{0}, 0, 1},
		{[]byte{0, 0}, 0, 1},
		{[]byte{0, 128}, 0, 1},
		{[]byte{1}, 1, 1},
		{[]byte{127}, 127, 1},
		{[]byte{127, 255, 255}, 127, 1},
		{[]byte{128, 1}, 128, 2},
		{[]byte{172, 2}, 300, 2},
		{[]byte{172, 2, 0}, 300, 2},
		{[]byte{172, 2, 172, 2}, 300, 2},
		{[]byte{255, 127}, 1<<14 - 1, 2},
		{row(2, 1), 1 << 14, 3},
		{row(8, 1), 1 << 56, 9},
		{row(8, 2), 1 << 57, 9},
		{row(8, 127), 127 << 56, 9},
		{row(9, 1), 1 << 63, 10},
		{row(9, 1, 0), 1 << 63, 10},
		{append(bytes.Repeat([]byte{255}, 9), 1), math.MaxUint64, 10},
		{append(bytes.Repeat([]byte{255}, 9), 1, 255, 255), math.MaxUint64, 10},
	} {
		if n, k, e := vary.Take(c.b); n != c.n || k != c.k || e != api.OK {
			t.Errorf("Take(%v): %d, %d, %d, not %d, %d, 0", c.b, n, k, e, c.n, c.k)
		}
	}
}

// P1.2: each byte that may stand at each place, behind bytes that go on.
func TestTakeAsToldAtEachPlace(t *testing.T) {
	for goOn := range 14 {
		for last := range 256 {
			for _, fill := range []byte{128, 129, 255} {
				b := append(bytes.Repeat([]byte{fill}, goOn), byte(last))
				sameAsTold(t, b)
				sameAsTold(t, append(b, 0))
				sameAsTold(t, append(b, 200, 3))
			}
		}
	}
}

func sameAsTold(t *testing.T, b []byte) {
	t.Helper()
	n, k, e := vary.Take(b)
	if n2, k2, e2 := told(b); n != n2 || k != k2 || e != e2 {
		t.Fatalf("Take(%v): %d, %d, %d, not %d, %d, %d", b, n, k, e, n2, k2, e2)
	}
}

// P1.2, P1.3: rows of any bytes; what is taken is a number's bytes, and the only ones.
func TestTakeOfAnyBytes(t *testing.T) {
	r := rand.New(rand.NewSource(2))
	for range 100000 {
		b := make([]byte, r.Intn(14))
		for i := range b {
			b[i] = byte(r.Intn(256))
			if r.Intn(4) > 0 {
				b[i] |= 128
			}
		}
		sameAsTold(t, b)
		oneOrNone(t, b)
	}
}

// oneOrNone holds the bytes that Take tells a number of against that number's.
func oneOrNone(t *testing.T, b []byte) {
	t.Helper()
	if n, k, e := vary.Take(b); e == api.OK && !bytes.Equal(vary.Put(n), b[:k]) {
		t.Fatalf("Take(%v) is %d of %d bytes, but Put of that is %v", b, n, k, vary.Put(n))
	}
}

// P1.3: numbers come back from their bytes, whatever stands behind.
func TestNumbersComeBack(t *testing.T) {
	for _, n := range some() {
		own := vary.Put(n)
		for _, behind := range [][]byte{nil, {0}, {1}, {127}, {128}, {255}, own, row(12), row(12, 1)} {
			b := append(bytes.Clone(own), behind...)
			if m, k, e := vary.Take(b); m != n || k != len(own) || e != api.OK {
				t.Fatalf("%d: Take(%v): %d, %d, %d", n, b, m, k, e)
			}
		}
	}
}

// P1.3: bytes that are cut are no number's.
func TestCutBytesAreNone(t *testing.T) {
	for _, n := range edges() {
		own := vary.Put(n)
		for cut := range own {
			if m, k, e := vary.Take(own[:cut]); m != 0 || k != 0 || e != api.ErrShort {
				t.Fatalf("%d cut to %d bytes: %d, %d, %d", n, cut, m, k, e)
			}
		}
	}
}

// P1.3: each row of one, two or three bytes is one number's, or none's, and no number below 128^3 is left out.
func TestShortRowsAreOneNumberOrNone(t *testing.T) {
	seen := make([]bool, 1<<21)
	for size := 1; size <= 3; size++ {
		for bits := range 1 << (8 * size) {
			b := []byte{byte(bits), byte(bits >> 8), byte(bits >> 16)}[:size]
			n, k, e := vary.Take(b)
			if e != api.OK || k != size {
				continue
			}
			if seen[n] {
				t.Fatalf("%v: another row is %d, too", b, n)
			}
			seen[n] = true
			oneOrNone(t, b)
		}
	}
	if n := slices.Index(seen, false); n >= 0 {
		t.Fatalf("no row is %d", n)
	}
}

// R3: arguments stay as they were, and answers share nothing.
func TestNothingIsShared(t *testing.T) {
	for _, b := range [][]byte{{172, 2, 5}, row(9, 1), row(9, 0), row(11), {}} {
		old := bytes.Clone(b)
		vary.Take(b)
		if !bytes.Equal(b, old) {
			t.Errorf("Take changed %v to %v", old, b)
		}
	}
	for _, n := range edges() {
		first := vary.Put(n)
		for i := range first {
			first[i] ^= 255
		}
		if b := vary.Put(n); !bytes.Equal(b, spelled(n)) {
			t.Errorf("Put(%d): %v, once its bytes were changed", n, b)
		}
	}
}
