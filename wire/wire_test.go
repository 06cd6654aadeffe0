package wire_test

import (
	"bytes"
	"math"
	"math/rand"
	"slices"
	"strconv"
	"testing"

	"probate/api"
	"probate/vary"
	"probate/wire"
)

// row is a row of bytes that all go on, and others behind.
func row(goOn int, behind ...byte) []byte {
	return append(bytes.Repeat([]byte{128}, goOn), behind...)
}

// numbers are the edges of sizes, and some between.
func numbers() []int {
	l := []int{0, 1, 2, 42, 300, 1000, 65535, 1000000, math.MaxInt - 1, math.MaxInt}
	for i := range 63 {
		l = append(l, 1<<i-1, 1<<i, 1<<i+1)
	}
	return l
}

// put is a row of numbers, as vary has them.
func put(l ...int) []byte {
	var b []byte
	for _, n := range l {
		b = append(b, vary.Put(uint64(n))...)
	}
	return b
}

// broken are bytes that are no number's, and what vary.Take says of them.
func broken() map[string]struct {
	b []byte
	e api.Errno
} {
	return map[string]struct {
		b []byte
		e api.Errno
	}{
		"none":                       {nil, api.ErrShort},
		"empty":                      {[]byte{}, api.ErrShort},
		"one that goes on":           {row(1), api.ErrShort},
		"nine that go on":            {row(9), api.ErrShort},
		"ten that go on":             {row(10), api.ErrLong},
		"ten that go on, and an end": {row(10, 1), api.ErrLong},
		"2 at place 9":               {row(9, 2), api.ErrLong},
		"0 at place 1":               {row(1, 0), api.ErrForm},
		"0 at place 1, and more":     {row(1, 0, 1, 1, 1), api.ErrForm},
		"0 at place 9":               {row(9, 0), api.ErrForm},
	}
}

// stays holds a reader against what is said of one to which e went wrong: nothing is read, taken or left, whatever it is asked.
func stays(t *testing.T, name string, r *wire.Reader, e api.Errno) {
	t.Helper()
	for range 2 {
		if r.Left() != 0 || r.End() != e {
			t.Errorf("%s: left %d, end %d, not 0, %d", name, r.Left(), r.End(), e)
		}
		if n := r.Num(math.MaxInt); n != 0 {
			t.Errorf("%s: Num told %d", name, n)
		}
		if r.Bool() {
			t.Errorf("%s: Bool told true", name)
		}
		if l := r.Nums(math.MaxInt, math.MaxInt); len(l) != 0 {
			t.Errorf("%s: Nums told %v", name, l)
		}
		if l := wire.List(r, math.MaxInt, (*wire.Reader).Bool); len(l) != 0 {
			t.Errorf("%s: List told %v", name, l)
		}
		for _, other := range []api.Errno{api.OK, api.ErrArg, api.ErrWrong, e + 1} {
			r.Wrong(other)
		}
	}
	if r.Left() != 0 || r.End() != e {
		t.Errorf("%s: behind all: left %d, end %d, not 0, %d", name, r.Left(), r.End(), e)
	}
}

// at holds a reader to which nothing went wrong against how many bytes are left.
func at(t *testing.T, name string, r *wire.Reader, left int) {
	t.Helper()
	end := api.OK
	if left > 0 {
		end = api.ErrLong
	}
	for range 3 {
		if r.Left() != left || r.End() != end {
			t.Fatalf("%s: left %d, end %d, not %d, %d", name, r.Left(), r.End(), left, end)
		}
	}
}

// P2.1: a number is written by its bytes.
func TestWriteNum(t *testing.T) {
	for _, c := range []struct {
		n int
		b []byte
	}{
		{0, []byte{0}},
		{1, []byte{1}},
		{127, []byte{127}},
		{128, []byte{128, 1}},
		{300, []byte{172, 2}},
		{16384, []byte{128, 128, 1}},
		{math.MaxInt64, []byte{255, 255, 255, 255, 255, 255, 255, 255, 127}},
	} {
		var w wire.Writer
		if w.Num(c.n); !bytes.Equal(w.Bytes(), c.b) {
			t.Errorf("Num(%d): %v, not %v", c.n, w.Bytes(), c.b)
		}
	}
	for _, n := range numbers() {
		var w wire.Writer
		if w.Num(n); !bytes.Equal(w.Bytes(), vary.Put(uint64(n))) {
			t.Errorf("Num(%d): %v, not %v", n, w.Bytes(), vary.Put(uint64(n)))
		}
	}
}

// P2.1: a bool is 1, or 0.
func TestWriteBool(t *testing.T) {
	var yes, no wire.Writer
	yes.Bool(true)
	no.Bool(false)
	if !bytes.Equal(yes.Bytes(), []byte{1}) || !bytes.Equal(no.Bytes(), []byte{0}) {
		t.Errorf("true: %v, false: %v", yes.Bytes(), no.Bytes())
	}
}

// P2.1: a list is how many they are, and they.
func TestWriteNums(t *testing.T) {
	long := make([]int, 300)
	for _, c := range []struct {
		l []int
		b []byte
	}{
		{nil, []byte{0}},
		{[]int{}, []byte{0}},
		{[]int{0}, []byte{1, 0}},
		{[]int{0, 0}, []byte{2, 0, 0}},
		{[]int{5, 4, 3}, []byte{3, 5, 4, 3}},
		{[]int{300, 1}, []byte{2, 172, 2, 1}},
		{[]int{127, 128}, []byte{2, 127, 128, 1}},
		{[]int{math.MaxInt64}, []byte{1, 255, 255, 255, 255, 255, 255, 255, 255, 127}},
		{long, append([]byte{172, 2}, make([]byte, 300)...)},
	} {
		old := slices.Clone(c.l)
		var w wire.Writer
		if w.Nums(c.l); !bytes.Equal(w.Bytes(), c.b) {
			t.Errorf("Nums(%v): %v, not %v", c.l, w.Bytes(), c.b)
		}
		if !slices.Equal(c.l, old) {
			t.Errorf("Nums changed %v to %v", old, c.l)
		}
	}
}

// P2.1: the chapter's example.
func TestExample(t *testing.T) {
	var w wire.Writer
	w.Nums([]int{300, 1})
	w.Bool(true)
	b := w.Bytes()
	if !bytes.Equal(b, []byte{2, 172, 2, 1, 1}) {
		t.Fatalf("written: %v", b)
	}
	r := wire.New(b)
	l := r.Nums(2, 300)
	is := r.Bool()
	if !slices.Equal(l, []int{300, 1}) || !is {
		t.Fatalf("read: %v, %v", l, is)
	}
	at(t, "behind all", r, 0)
}

// P2.1: each thing stands behind the others; a zero writer has written nothing.
func TestWriteBehind(t *testing.T) {
	var w wire.Writer
	if len(w.Bytes()) != 0 {
		t.Fatalf("a zero writer: %v", w.Bytes())
	}
	var want []byte
	for i, c := range []struct {
		write func()
		b     []byte
	}{
		{func() { w.Bool(false) }, []byte{0}},
		{func() { w.Num(300) }, []byte{172, 2}},
		{func() { w.Nums(nil) }, []byte{0}},
		{func() { w.Nums([]int{1, 128, 2}) }, []byte{3, 1, 128, 1, 2}},
		{func() { w.Bool(true) }, []byte{1}},
		{func() { w.Num(0) }, []byte{0}},
		{func() { w.Nums([]int{}) }, []byte{0}},
		{func() { w.Num(math.MaxInt64) }, []byte{255, 255, 255, 255, 255, 255, 255, 255, 127}},
	} {
		c.write()
		want = append(want, c.b...)
		if !bytes.Equal(w.Bytes(), want) || !bytes.Equal(w.Bytes(), want) {
			t.Fatalf("behind thing %d: %v, not %v", i, w.Bytes(), want)
		}
	}
}

// P2.1, R5: writers know nothing of each other.
func TestWritersApart(t *testing.T) {
	var a, b wire.Writer
	a.Num(1)
	b.Num(2)
	a.Num(3)
	b.Num(4)
	if !bytes.Equal(a.Bytes(), []byte{1, 3}) || !bytes.Equal(b.Bytes(), []byte{2, 4}) {
		t.Errorf("%v and %v", a.Bytes(), b.Bytes())
	}
}

// P2.1, R3: what Bytes told stays as it was when more is written, and the writer's own stays when that is changed.
func TestBytesShareNothing(t *testing.T) {
	var w wire.Writer
	var want []byte
	for n := range 100 {
		w.Num(n)
		want = append(want, byte(n))
		told := w.Bytes()
		more := append(told, 77)
		w.Num(5)
		want = append(want, 5)
		if !bytes.Equal(told, want[:len(want)-1]) || more[len(told)] != 77 {
			t.Fatalf("at %d: more written changed what was told: %v", n, more)
		}
		for i := range told {
			told[i] ^= 255
		}
		if !bytes.Equal(w.Bytes(), want) {
			t.Fatalf("at %d: the writer has %v, not %v", n, w.Bytes(), want)
		}
	}
}

// P2.2: numbers up to most, one behind the other.
func TestReadNum(t *testing.T) {
	for _, n := range numbers() {
		own := put(n)
		for _, most := range []int{n, max(n, n/2+math.MaxInt/2), math.MaxInt} {
			r := wire.New(append(bytes.Clone(own), 3, 128))
			at(t, "ahead", r, len(own)+2)
			if m := r.Num(most); m != n {
				t.Errorf("Num(%d) of %d: %d, end %d", most, n, m, r.End())
			}
			at(t, "behind it", r, 2)
			if m := r.Num(3); m != 3 {
				t.Errorf("Num behind %d: %d", n, m)
			}
			at(t, "behind both", r, 1)
		}
	}
}

// P2.2: ErrBig, if the number is above most.
func TestReadNumAboveMost(t *testing.T) {
	for _, n := range numbers() {
		for _, most := range []int{0, n / 2, n - 1} {
			if most < 0 || most >= n {
				continue
			}
			r := wire.New(append(put(n), 1, 1))
			if m := r.Num(most); m != 0 {
				t.Errorf("Num(%d) of %d: %d", most, n, m)
			}
			stays(t, "Num("+strconv.Itoa(most)+") of "+strconv.Itoa(n), r, api.ErrBig)
		}
	}
}

// Of a most below 0 the chapter doesn't speak; every number is above it, and none comes out below 0.
func TestReadNumOfNoMost(t *testing.T) {
	for _, n := range []uint64{0, 1, 300, 1 << 63, 1<<64 - 1} {
		r := wire.New(vary.Put(n))
		if m := r.Num(-1); m != 0 {
			t.Errorf("Num(-1) of %d: %d", n, m)
		}
		stays(t, "Num(-1)", r, api.ErrBig)
	}
}

// P2.2: numbers that no int is, are above every most.
func TestReadNumAboveInts(t *testing.T) {
	for _, n := range []uint64{1 << 63, 1<<63 + 1, 1<<64 - 2, 1<<64 - 1} {
		for _, most := range []int{0, 1, 1000, math.MaxInt - 1, math.MaxInt} {
			r := wire.New(append(vary.Put(n), 1))
			if m := r.Num(most); m != 0 {
				t.Errorf("Num(%d) of %d: %d", most, n, m)
			}
			stays(t, "above all ints", r, api.ErrBig)
		}
		for name, ask := range map[string]func(*wire.Reader) bool{
			"Bool": (*wire.Reader).Bool,
			"Nums": func(r *wire.Reader) bool { return len(r.Nums(math.MaxInt, 0)) > 0 },
			"List": func(r *wire.Reader) bool { return len(wire.List(r, math.MaxInt, (*wire.Reader).Bool)) > 0 },
		} {
			r := wire.New(append(vary.Put(n), 1, 1, 1))
			if ask(r) {
				t.Errorf("%s of %d told something", name, n)
			}
			stays(t, name+" of a number above all ints", r, api.ErrBig)
		}
	}
}

// P2.2: each of vary.Take's errors, ahead of all and behind other things.
func TestReadBroken(t *testing.T) {
	for name, c := range broken() {
		for _, most := range []int{0, 1, 1000, math.MaxInt} {
			r := wire.New(c.b)
			if n := r.Num(most); n != 0 {
				t.Errorf("%s: Num told %d", name, n)
			}
			stays(t, name+", by Num", r, c.e)
		}
		r := wire.New(append(put(300, 1), c.b...))
		if n, is := r.Num(300), r.Bool(); n != 300 || !is {
			t.Errorf("%s: ahead of it: %d, %v", name, n, is)
		}
		at(t, name, r, len(c.b))
		r.Num(math.MaxInt)
		stays(t, name+", behind others", r, c.e)
		r = wire.New(c.b)
		if r.Bool() {
			t.Errorf("%s: Bool told true", name)
		}
		stays(t, name+", by Bool", r, c.e)
	}
}

// P2.2: what vary.Take says of bytes comes ahead of ErrBig: bytes that are no number's are above nothing.
func TestBrokenAheadOfBig(t *testing.T) {
	for _, c := range []struct {
		b []byte
		e api.Errno
	}{
		{[]byte{255}, api.ErrShort},
		{[]byte{255, 0}, api.ErrForm},
		{append(bytes.Repeat([]byte{255}, 9), 2), api.ErrLong},
	} {
		r := wire.New(c.b)
		r.Num(0)
		stays(t, "broken and great", r, c.e)
	}
}

// P2.2: a bool is whether the number is 1; above 1 it is ErrBig.
func TestReadBool(t *testing.T) {
	r := wire.New([]byte{1, 0, 1, 1, 0})
	for i, want := range []bool{true, false, true, true, false} {
		if is := r.Bool(); is != want {
			t.Errorf("bool %d: %v", i, is)
		}
		at(t, "behind a bool", r, 4-i)
	}
	for _, n := range numbers()[2:] {
		if n < 2 {
			continue
		}
		r := wire.New(append(put(n), 1))
		if r.Bool() {
			t.Errorf("Bool of %d told true", n)
		}
		stays(t, "Bool of "+strconv.Itoa(n), r, api.ErrBig)
	}
	r = wire.New([]byte{129, 0})
	if r.Bool() {
		t.Error("Bool of 1 with a byte too many told true")
	}
	stays(t, "Bool of 1 with a byte too many", r, api.ErrForm)
}

// readers of lists: Nums, and List of a function that reads the same.
func lists() map[string]func(r *wire.Reader, many, most int) []int {
	return map[string]func(r *wire.Reader, many, most int) []int{
		"Nums": (*wire.Reader).Nums,
		"List": func(r *wire.Reader, many, most int) []int {
			return wire.List(r, many, func(r *wire.Reader) int { return r.Num(most) })
		},
	}
}

// P2.2: lists of fewer than many, and of as many, with something behind.
func TestReadLists(t *testing.T) {
	for name, read := range lists() {
		for _, l := range [][]int{nil, {0}, {7}, {0, 0, 0}, {300, 1}, {1, 2, 3, 4, 5}, {math.MaxInt, 0, math.MaxInt}, make([]int, 300)} {
			b := append(put(len(l)), put(l...)...)
			for _, many := range []int{len(l), len(l) + 1, 2*len(l) + 5, math.MaxInt} {
				r := wire.New(append(bytes.Clone(b), 9, 200))
				if got := read(r, many, math.MaxInt); !slices.Equal(got, l) {
					t.Errorf("%s: %v, not %v; end %d", name, got, l, r.End())
				}
				at(t, name, r, 2)
				if n := r.Num(9); n != 9 {
					t.Errorf("%s: behind it %d", name, n)
				}
			}
		}
	}
}

// P2.2: more than many are ErrBig, and none is told.
func TestReadListsOfMoreThanMany(t *testing.T) {
	for name, read := range lists() {
		for _, size := range []int{1, 2, 5, 127, 128, 300} {
			b := append(put(size), make([]byte, size)...)
			for _, many := range []int{0, size / 2, size - 1} {
				r := wire.New(b)
				if l := read(r, many, 10); len(l) != 0 {
					t.Errorf("%s of %d, at most %d: %v", name, size, many, l)
				}
				stays(t, name+" of too many", r, api.ErrBig)
			}
		}
	}
}

// P2.2: something wrong inside a list, at its size, its first, a middle or its last place: none is told.
func TestReadListsWrongInside(t *testing.T) {
	for name, read := range lists() {
		for broke, c := range broken() {
			r := wire.New(c.b)
			if l := read(r, 100, 100); len(l) != 0 {
				t.Errorf("%s of %s: %v", name, broke, l)
			}
			stays(t, name+" of "+broke, r, c.e)
			for ahead := range 4 {
				r := wire.New(append(put(4, 5, 6, 7)[:1+ahead], c.b...))
				if l := read(r, 4, 100); len(l) != 0 {
					t.Errorf("%s of %d and %s: %v", name, ahead, broke, l)
				}
				stays(t, name+" of some and "+broke, r, c.e)
			}
		}
		for place := range 4 {
			b := put(4, 5, 5, 5, 5, 1, 1)
			b[1+place] = 6
			r := wire.New(b)
			if l := read(r, 4, 5); len(l) != 0 {
				t.Errorf("%s with a 6 at %d: %v", name, place, l)
			}
			stays(t, name+" with a 6", r, api.ErrBig)
		}
	}
}

// P2.2: a list that says that it is long, and isn't, ends where its bytes do.
func TestReadListsThatLie(t *testing.T) {
	for name, read := range lists() {
		r := wire.New(append(put(math.MaxInt), 1, 2, 3))
		if l := read(r, math.MaxInt, 10); len(l) != 0 {
			t.Errorf("%s: %v", name, l)
		}
		stays(t, name, r, api.ErrShort)
	}
}

// pair is something that isn't a number.
type pair struct {
	is bool
	l  []int
}

func readPair(r *wire.Reader) pair {
	return pair{r.Bool(), r.Nums(3, 9)}
}

// P2.2: lists of any type, each read by the function that is handed, in the order in which they stand.
func TestListOfAnything(t *testing.T) {
	r := wire.New([]byte{3, 1, 0, 0, 3, 9, 8, 7, 1, 1, 5, 77})
	l := wire.List(r, 3, readPair)
	want := []pair{{true, nil}, {false, []int{9, 8, 7}}, {true, []int{5}}}
	if !slices.EqualFunc(l, want, func(a, b pair) bool { return a.is == b.is && slices.Equal(a.l, b.l) }) {
		t.Fatalf("%v, not %v", l, want)
	}
	at(t, "behind them", r, 1)
	r = wire.New([]byte{3, 1, 0, 0, 3, 9, 8, 10, 1, 1, 5, 77})
	if l := wire.List(r, 3, readPair); len(l) != 0 {
		t.Errorf("with a 10: %v", l)
	}
	stays(t, "with a 10", r, api.ErrBig)
	r = wire.New([]byte{2, 0, 2, 3, 4, 5})
	nested := wire.List(r, 2, func(r *wire.Reader) []int { return r.Nums(2, 9) })
	if len(nested) != 2 || len(nested[0]) != 0 || !slices.Equal(nested[1], []int{3, 4}) {
		t.Errorf("lists in a list: %v", nested)
	}
	at(t, "behind lists in a list", r, 1)
	texts := wire.List(wire.New([]byte{2, 4, 2}), 2, func(r *wire.Reader) string { return strconv.Itoa(r.Num(9)) })
	if !slices.Equal(texts, []string{"4", "2"}) {
		t.Errorf("texts: %q", texts)
	}
}

// P2.2: the function is asked as often as there are things, with the reader itself, and not any more once something went wrong.
func TestListAsksOneEach(t *testing.T) {
	r := wire.New([]byte{4, 5})
	asked := 0
	l := wire.List(r, 4, func(given *wire.Reader) int {
		if given != r {
			t.Error("another reader")
		}
		asked++
		return asked
	})
	if asked != 4 || !slices.Equal(l, []int{1, 2, 3, 4}) {
		t.Errorf("asked %d times: %v", asked, l)
	}
	at(t, "nothing taken by one", r, 1)
	for _, size := range []byte{0, 9} {
		asked = 0
		wire.List(wire.New([]byte{size, 1, 1}), 8, func(*wire.Reader) int { asked++; return 0 })
		if asked != 0 {
			t.Errorf("a list of %d: asked %d times", size, asked)
		}
	}
}

// P2.2: none is told if one lets something go wrong, be it at the last one, though each was read.
func TestListWrongByOne(t *testing.T) {
	for place := range 3 {
		r := wire.New([]byte{3, 0, 1, 2, 1})
		l := wire.List(r, 3, func(r *wire.Reader) int {
			n := r.Num(9)
			if n == place {
				r.Wrong(api.ErrName)
			}
			return n + 1
		})
		if len(l) != 0 {
			t.Errorf("wrong at %d: %v", place, l)
		}
		stays(t, "wrong by one", r, api.ErrName)
	}
}

// P2.2: Wrong of OK is nothing; of an error, it stays, and the first one of several.
func TestWrong(t *testing.T) {
	r := wire.New([]byte{7, 1})
	r.Wrong(api.OK)
	at(t, "OK", r, 2)
	if n := r.Num(7); n != 7 {
		t.Errorf("behind OK: %d", n)
	}
	r.Wrong(api.OK)
	at(t, "OK again", r, 1)
	for e := api.ErrArg; e <= api.ErrWrong; e++ {
		for _, b := range [][]byte{nil, {1}, {1, 1, 1, 1}, row(12)} {
			r := wire.New(b)
			r.Wrong(e)
			stays(t, "Wrong("+strconv.Itoa(int(e))+")", r, e)
		}
		r := wire.New([]byte{5, 1, 1, 1, 1})
		if n := r.Num(5); n != 5 {
			t.Errorf("ahead of it: %d", n)
		}
		r.Wrong(api.OK)
		r.Wrong(e)
		r.Wrong(api.ErrDead)
		stays(t, "behind a number", r, e)
	}
}

// P2.2: Left and End of a reader of nothing, and of one of which all was taken: what isn't there is missed only when it is asked for.
func TestLeftAndEnd(t *testing.T) {
	for _, b := range [][]byte{nil, {}} {
		r := wire.New(b)
		at(t, "nothing", r, 0)
		r.Num(1)
		stays(t, "nothing, asked", r, api.ErrShort)
	}
	b := []byte{172, 2, 1, 2, 5, 6, 0}
	r := wire.New(b)
	at(t, "ahead", r, 7)
	r.Num(300)
	at(t, "behind a number", r, 5)
	r.Bool()
	at(t, "behind a bool", r, 4)
	r.Nums(2, 6)
	at(t, "behind a list", r, 1)
	wire.List(r, 0, (*wire.Reader).Bool)
	at(t, "behind all", r, 0)
	r.Bool()
	stays(t, "too much", r, api.ErrShort)
}

// P2.2, R3: the bytes handed to New stay as they were, and what becomes of them later changes nothing of the reader.
func TestNewSharesNothing(t *testing.T) {
	b := []byte{3, 1, 128, 1, 2, 1, 7}
	old := bytes.Clone(b)
	r := wire.New(b)
	l := r.Nums(3, 128)
	if !slices.Equal(l, []int{1, 128, 2}) || !bytes.Equal(b, old) {
		t.Fatalf("%v; the bytes: %v", l, b)
	}
	for i := range b {
		b[i] = 255
	}
	if is, n := r.Bool(), r.Num(7); !is || n != 7 {
		t.Errorf("once its bytes were changed: %v, %d, end %d", is, n, r.End())
	}
	at(t, "behind all", r, 0)
	if !slices.Equal(l, []int{1, 128, 2}) {
		t.Errorf("the list became %v", l)
	}
	one, other := wire.New(old), wire.New(old)
	one.Wrong(api.ErrArg)
	at(t, "another reader of the same", other, len(old))
}

// R3: lists that were read are the asker's own.
func TestListsReadShareNothing(t *testing.T) {
	r := wire.New([]byte{2, 1, 2, 2, 3, 4})
	first := r.Nums(2, 9)
	first = append(first, 50)
	first[0] = 60
	if second := r.Nums(2, 9); !slices.Equal(second, []int{3, 4}) || !slices.Equal(first, []int{60, 2, 50}) {
		t.Errorf("%v and %v", first, second)
	}
}

// model works out what a reader says, clause by clause, as the chapter does: it keeps all bytes, and how many were taken.
type model struct {
	b     []byte
	taken int
	wrong api.Errno
}

func (m *model) num(most uint64) int {
	if m.wrong != api.OK {
		return 0
	}
	n, k, e := vary.Take(m.b[m.taken:])
	if e != api.OK {
		m.wrong = e
		return 0
	}
	if n > most {
		m.wrong = api.ErrBig
		return 0
	}
	m.taken += k
	return int(n)
}

func (m *model) nums(many, most uint64) []int {
	l := make([]int, 0)
	for i, size := 0, m.num(many); i < size && m.wrong == api.OK; i++ {
		l = append(l, m.num(most))
	}
	if m.wrong != api.OK {
		return nil
	}
	return l
}

func (m *model) left() int {
	if m.wrong != api.OK {
		return 0
	}
	return len(m.b) - m.taken
}

func (m *model) end() api.Errno {
	if m.wrong == api.OK && m.left() > 0 {
		return api.ErrLong
	}
	return m.wrong
}

// someBytes are bytes that are mostly small, so that many things are read ahead of what goes wrong.
func someBytes(rnd *rand.Rand) []byte {
	b := make([]byte, rnd.Intn(30))
	for i := range b {
		switch rnd.Intn(12) {
		case 0:
			b[i] = byte(rnd.Intn(256))
		case 1:
			b[i] = 128 + byte(rnd.Intn(3))
		default:
			b[i] = byte(rnd.Intn(4))
		}
	}
	return b
}

// P2.2: any bytes, asked anything, told as the chapter says.
func TestReadAsTold(t *testing.T) {
	rnd := rand.New(rand.NewSource(3))
	for range 50000 {
		b := someBytes(rnd)
		r, m := wire.New(b), &model{b: b}
		for range 12 {
			many, most := rnd.Intn(6), rnd.Intn(200)
			same := true
			switch rnd.Intn(8) {
			case 0, 1:
				same = r.Num(most) == m.num(uint64(most))
			case 2, 3:
				same = r.Bool() == (m.num(1) == 1)
			case 4, 5:
				same = slices.Equal(r.Nums(many, most), m.nums(uint64(many), uint64(most)))
			case 6:
				l := wire.List(r, many, (*wire.Reader).Bool)
				same = slices.EqualFunc(l, m.nums(uint64(many), 1), func(is bool, n int) bool { return is == (n == 1) })
			case 7:
				e := api.Errno(rnd.Intn(80))
				if e > api.ErrWrong {
					e = api.OK
				}
				r.Wrong(e)
				if m.wrong == api.OK {
					m.wrong = e
				}
			}
			if !same || r.Left() != m.left() || r.End() != m.end() {
				t.Fatalf("%v: the reader has left %d, end %d; told: left %d, end %d", b, r.Left(), r.End(), m.left(), m.end())
			}
		}
	}
}

// thing is a number, a bool or a list, as it is written and read.
type thing struct {
	kind int
	l    []int
}

func (x thing) write(w *wire.Writer) {
	switch x.kind {
	case 0:
		w.Num(x.l[0])
	case 1:
		w.Bool(x.l[0] == 1)
	default:
		w.Nums(x.l)
	}
}

// read tells whether what is read is the thing.
func (x thing) read(r *wire.Reader) bool {
	switch x.kind {
	case 0:
		return r.Num(math.MaxInt) == x.l[0]
	case 1:
		return r.Bool() == (x.l[0] == 1)
	case 2:
		return slices.Equal(r.Nums(math.MaxInt, math.MaxInt), x.l)
	}
	return slices.Equal(wire.List(r, len(x.l), func(r *wire.Reader) int { return r.Num(math.MaxInt) }), x.l)
}

// things are some of all kinds, with numbers of all sizes.
func things(rnd *rand.Rand) []thing {
	all := make([]thing, 1+rnd.Intn(6))
	for i := range all {
		size := rnd.Intn(5)
		all[i].kind = rnd.Intn(4)
		if all[i].kind < 2 {
			size = 1
		}
		for range size {
			all[i].l = append(all[i].l, rnd.Int()>>rnd.Intn(63))
		}
		if all[i].kind == 1 {
			all[i].l[0] &= 1
		}
	}
	return all
}

// P2.3: what is written is read, to its end, and of bytes that are cut, be it anywhere, what is missing goes wrong.
func TestWrittenIsRead(t *testing.T) {
	rnd := rand.New(rand.NewSource(4))
	for range 3000 {
		all := things(rnd)
		var w wire.Writer
		for _, x := range all {
			x.write(&w)
		}
		b := w.Bytes()
		r := wire.New(b)
		for _, x := range all {
			if !x.read(r) {
				t.Fatalf("%v: of %v another thing is read, end %d", all, b, r.End())
			}
		}
		at(t, "behind all", r, 0)
		for cut := range b {
			r := wire.New(b[:cut])
			for _, x := range all {
				x.read(r)
			}
			stays(t, "cut", r, api.ErrShort)
		}
	}
}

// P2.3: a number behind the end is told by End alone.
func TestWrittenAndMore(t *testing.T) {
	var w wire.Writer
	for _, n := range numbers() {
		w.Num(n)
	}
	w.Num(0)
	r := wire.New(w.Bytes())
	for _, n := range numbers() {
		if m := r.Num(n); m != n {
			t.Fatalf("%d, not %d", m, n)
		}
	}
	at(t, "one more", r, 1)
}

// R4: the same calls answer the same.
func TestSameAgain(t *testing.T) {
	for range 3 {
		r := wire.New([]byte{2, 1, 0, 200, 1, 9})
		l := wire.List(r, 5, (*wire.Reader).Bool)
		if n := r.Num(200); !slices.Equal(l, []bool{true, false}) || n != 200 || r.End() != api.ErrLong {
			t.Errorf("%v, %d, %d", l, n, r.End())
		}
	}
}
