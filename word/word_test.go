package word_test

import (
	"bytes"
	"math"
	"math/rand"
	"slices"
	"testing"

	"probate/api"
	"probate/word"
)

// put and drop are edits.
func put(at, tok int) api.Edit { return api.Edit{At: at, Tok: tok} }
func drop(at int) api.Edit     { return api.Edit{At: at, Drop: true} }

// many is so many of one.
func many[T any](n int, one T) []T {
	l := make([]T, n)
	for i := range l {
		l[i] = one
	}
	return l
}

// joined are lists, one behind the other, in memory of their own.
func joined[T any](lists ...[]T) []T { return slices.Concat(lists...) }

// full is a word of as many tokens as may be, with all terminals that may be.
func full() []int {
	w := make([]int, api.MostWord)
	for i := range w {
		w[i] = (i*7 + api.MostTerms - 1) % api.MostTerms
	}
	return w
}

// with is a word with another token at a place.
func with(w []int, at, tok int) []int {
	c := slices.Clone(w)
	c[at] = tok
	return c
}

// wide is a list with room behind it that isn't its own, and all of that.
func wide[T any](l []T, behind T) (part, all []T) {
	all = joined(l, many(40, behind))
	return all[:len(l)], all
}

// asBytes are a word's bytes: none of its numbers is above 127.
func asBytes(w []int) []byte {
	b := []byte{byte(len(w))}
	for _, tok := range w {
		b = append(b, byte(tok))
	}
	return b
}

// words are words that may be, and words that may not.
func words() (may, not map[string][]int) {
	may = map[string][]int{
		"none":              nil,
		"empty":             {},
		"0":                 {0},
		"the greatest":      {api.MostTerms - 1},
		"the least ones":    many(api.MostWord, 0),
		"the greatest ones": many(api.MostWord, api.MostTerms-1),
		"full":              full(),
		"one fewer":         full()[1:],
		"up and down":       {0, 15, 1, 14, 0, 0, 15, 15},
		"the chapter's":     {5, 6, 7},
		"the one below it":  {api.MostTerms - 2},
	}
	not = map[string][]int{
		"one more":                    many(api.MostWord+1, 0),
		"one more, of the greatest":   many(api.MostWord+1, api.MostTerms-1),
		"far more":                    make([]int, 5000),
		"one more, and a wrong one":   append(full(), -1),
		"below 0":                     {-1},
		"far below 0":                 {math.MinInt},
		"one beyond":                  {api.MostTerms},
		"below MostWord, but beyond":  {api.MostWord - 1},
		"far beyond":                  {math.MaxInt},
		"beyond, as a byte it isn't":  {256},
		"beyond, as 32 bits it isn't": {1 << 32},
		"behind another":              {0, 16},
		"ahead of another":            {-1, 0},
	}
	for at := range api.MostWord {
		name := "at " + string(rune('a'+at))
		not[name+", below"] = with(full(), at, -1)
		not[name+", beyond"] = with(full(), at, api.MostTerms)
		may[name+", 0"] = with(full(), at, 0)
		may[name+", the greatest"] = with(full(), at, api.MostTerms-1)
	}
	return may, not
}

// P4.1: Right at each limit, and one beyond it, from below and from above.
func TestRight(t *testing.T) {
	may, not := words()
	for name, w := range may {
		if old := slices.Clone(w); !word.Right(w) || !slices.Equal(w, old) {
			t.Errorf("%s: %v may not be, or was changed", name, old)
		}
	}
	for name, w := range not {
		if old := slices.Clone(w); word.Right(w) || !slices.Equal(w, old) {
			t.Errorf("%s: %v may be, or was changed", name, old)
		}
	}
}

// P4.1: Fits at Terms less 1 and at Terms, whatever Terms is.
func TestFits(t *testing.T) {
	for name, c := range map[string]struct {
		terms int
		w     []int
		want  bool
	}{
		"no terminal, no token":           {0, nil, true},
		"no terminal, an empty word":      {0, []int{}, true},
		"no terminal, a token":            {0, []int{0}, false},
		"no terminal, one below":          {0, []int{-1}, false},
		"Terms below 0, no token":         {-1, nil, true},
		"Terms below 0, a token":          {-1, []int{0}, false},
		"Terms below 0, one below that":   {-1, []int{-2}, false},
		"Terms far below 0, no token":     {math.MinInt, []int{}, true},
		"Terms far below 0, a token":      {math.MinInt, []int{0}, false},
		"Terms 1, at Terms less 1":        {1, []int{0}, true},
		"Terms 1, at Terms":               {1, []int{1}, false},
		"Terms 3, at Terms less 1":        {3, []int{0, 1, 2}, true},
		"Terms 3, at Terms first":         {3, []int{3, 1, 2}, false},
		"Terms 3, at Terms between":       {3, []int{0, 3, 2}, false},
		"Terms 3, at Terms last":          {3, []int{0, 1, 3}, false},
		"Terms 3, below 0":                {3, []int{0, -1}, false},
		"the most, at Terms less 1":       {api.MostTerms, []int{15}, true},
		"the most, at Terms":              {api.MostTerms, []int{16}, false},
		"the most, full":                  {api.MostTerms, full(), true},
		"one fewer, full":                 {api.MostTerms - 1, full(), false},
		"one fewer, at Terms less 1":      {api.MostTerms - 1, []int{14}, true},
		"one more than may be, may be":    {api.MostTerms + 1, full(), true},
		"one more than may be, no token":  {api.MostTerms + 1, nil, true},
		"one more than may be, less 1":    {api.MostTerms + 1, []int{16}, false},
		"far more than may be, may be":    {math.MaxInt, full(), true},
		"far more than may be, one more":  {math.MaxInt, []int{16}, false},
		"far more than may be, below":     {math.MaxInt, []int{-1}, false},
		"far more than may be, far below": {math.MaxInt, []int{math.MinInt}, false},
		"too many tokens":                 {api.MostTerms, many(api.MostWord+1, 0), false},
		"too many tokens, and terminals":  {math.MaxInt, many(api.MostWord+1, 0), false},
		"as many tokens as may be":        {1, many(api.MostWord, 0), true},
	} {
		old := slices.Clone(c.w)
		for _, g := range grammars(c.terms) {
			if got := word.Fits(g, c.w); got != c.want {
				t.Errorf("%s: %v", name, got)
			}
		}
		if !slices.Equal(c.w, old) {
			t.Errorf("%s: the word was changed", name)
		}
	}
}

// grammars have so many terminals; nothing else of a grammar is asked for.
func grammars(terms int) []api.Grammar {
	return []api.Grammar{
		{Terms: terms, Nons: 1, Prods: []api.Prod{{Left: 0, Right: []api.Sym{{N: 0}, {Non: true}}}, {}}},
		{Terms: terms, Nons: api.MostNons, Start: api.MostNons - 1},
		{Terms: terms},
		{Terms: terms, Nons: -1, Start: 99},
	}
}

// P4.1: Fits against the chapter's words, for every Terms and all words of words().
func TestFitsAll(t *testing.T) {
	may, not := words()
	for terms := -2; terms < api.MostTerms+4; terms++ {
		for name, w := range may {
			want := len(w) == 0 || slices.Max(w) < terms
			if word.Fits(api.Grammar{Terms: terms, Nons: 1}, w) != want {
				t.Errorf("%s, Terms %d: not %v", name, terms, want)
			}
		}
		for name, w := range not {
			if word.Fits(api.Grammar{Terms: terms, Nons: 1}, w) {
				t.Errorf("%s, Terms %d: fits and may not be", name, terms)
			}
		}
	}
}

// P4.1, R3: the grammar stays as it was.
func TestFitsLeavesGrammar(t *testing.T) {
	g := api.Grammar{Terms: 2, Nons: 1, Prods: []api.Prod{{Left: 0, Right: []api.Sym{{N: 1}, {Non: true}}}}}
	word.Fits(g, []int{0, 1, 5})
	if g.Terms != 2 || g.Nons != 1 || g.Start != 0 || len(g.Prods) != 1 || g.Prods[0].Left != 0 || !slices.Equal(g.Prods[0].Right, []api.Sym{{N: 1}, {Non: true}}) {
		t.Errorf("changed: %v", g)
	}
}

// P4.1: Bytes of words that may be, and of those that may not, beside which there are none (R2).
func TestBytes(t *testing.T) {
	for _, c := range []struct {
		w []int
		b []byte
	}{
		{nil, []byte{0}},
		{[]int{}, []byte{0}},
		{[]int{0}, []byte{1, 0}},
		{[]int{15}, []byte{1, 15}},
		{[]int{5, 6, 7}, []byte{3, 5, 6, 7}},
		{[]int{2, 1, 0, 2}, []byte{4, 2, 1, 0, 2}},
		{many(24, 15), append([]byte{24}, bytes.Repeat([]byte{15}, 24)...)},
	} {
		if b, e := word.Bytes(c.w); !bytes.Equal(b, c.b) || e != api.OK {
			t.Errorf("Bytes(%v): %v, %d, not %v", c.w, b, e, c.b)
		}
	}
	may, not := words()
	for name, w := range may {
		old := slices.Clone(w)
		if b, e := word.Bytes(w); !bytes.Equal(b, asBytes(old)) || e != api.OK || !slices.Equal(w, old) {
			t.Errorf("%s: %v, %d of %v", name, b, e, old)
		}
	}
	for name, w := range not {
		old := slices.Clone(w)
		if b, e := word.Bytes(w); b != nil || e != api.ErrArg || !slices.Equal(w, old) {
			t.Errorf("%s: %v, %d", name, b, e)
		}
	}
}

// P4.1, R4, R5: the bytes that were told may be changed, and the next call tells the same.
func TestBytesShareNothing(t *testing.T) {
	w := full()
	for range 3 {
		b, e := word.Bytes(w)
		if e != api.OK || !bytes.Equal(b, asBytes(full())) || !slices.Equal(w, full()) {
			t.Fatalf("%v, %d of %v", b, e, w)
		}
		for i := range b {
			b[i] ^= 255
		}
	}
}

// fails holds Read of bytes against an error, beside which there is no word (R2), while the bytes stay (R3).
func fails(t *testing.T, name string, b []byte, want api.Errno) {
	t.Helper()
	old := bytes.Clone(b)
	if w, e := word.Read(b); w != nil || e != want {
		t.Errorf("%s: Read(%v): %v, %d, not %d", name, old, w, e, want)
	}
	if !bytes.Equal(b, old) {
		t.Errorf("%s: bytes changed from %v to %v", name, old, b)
	}
}

// P4.1: Read of bytes of words.
func TestRead(t *testing.T) {
	for _, c := range []struct {
		b []byte
		w []int
	}{
		{[]byte{0}, nil},
		{[]byte{1, 0}, []int{0}},
		{[]byte{1, 15}, []int{15}},
		{[]byte{3, 5, 6, 7}, []int{5, 6, 7}},
		{append([]byte{24}, make([]byte, 24)...), make([]int, 24)},
		{append([]byte{24}, bytes.Repeat([]byte{15}, 24)...), many(24, 15)},
	} {
		old := bytes.Clone(c.b)
		if w, e := word.Read(c.b); !slices.Equal(w, c.w) || e != api.OK || !bytes.Equal(c.b, old) {
			t.Errorf("Read(%v): %v, %d, not %v", old, w, e, c.w)
		}
	}
}

// P4.1: each of a reader's errors, at how many tokens there are and at each token, at the limit and one beyond it.
func TestReadWrong(t *testing.T) {
	b := asBytes(full())
	for i := range b {
		most := byte(api.MostTerms - 1)
		if i == 0 {
			most = api.MostWord
		}
		ahead := slices.Clip(b[:i])
		behind := b[i+1:]
		fails(t, "cut", ahead, api.ErrShort)
		fails(t, "goes on, and cut", joined(ahead, []byte{128}), api.ErrShort)
		fails(t, "goes on for nine, and cut", joined(ahead, many(9, byte(255))), api.ErrShort)
		fails(t, "goes on for ten", joined(ahead, many(10, byte(128))), api.ErrLong)
		fails(t, "goes on for ten, and more", joined(ahead, many(10, byte(128)), behind), api.ErrLong)
		fails(t, "2 at place 9", joined(ahead, many(9, byte(128)), []byte{2}, behind), api.ErrLong)
		fails(t, "a byte too many", joined(ahead, []byte{129, 0}), api.ErrForm)
		fails(t, "a byte too many, and more", joined(ahead, []byte{128, 0}, behind), api.ErrForm)
		fails(t, "one beyond", joined(ahead, []byte{most + 1}), api.ErrBig)
		fails(t, "one beyond, and more", joined(ahead, []byte{most + 1}, behind), api.ErrBig)
		fails(t, "one beyond, and as many", joined(ahead, []byte{most + 1}, make([]byte, 25)), api.ErrBig)
		fails(t, "of two bytes", joined(ahead, []byte{128, 1}, behind), api.ErrBig)
		fails(t, "far beyond", joined(ahead, many(9, byte(255)), []byte{1}, behind), api.ErrBig)
		if i+1 < len(b) {
			fails(t, "at the limit, and cut", joined(ahead, []byte{most}), api.ErrShort)
			fails(t, "at the limit, and wrong behind", joined(ahead, []byte{most, 128, 0}), api.ErrForm)
		}
		if w, e := word.Read(joined(ahead, []byte{most}, behind)); e != api.OK || i > 0 && w[i-1] != int(most) {
			t.Errorf("at the limit, %d: %v, %d", i, w, e)
		}
	}
	fails(t, "empty", []byte{}, api.ErrShort)
}

// P4.1: bytes that are left are ErrLong, whatever they are.
func TestReadLeft(t *testing.T) {
	may, _ := words()
	for name, w := range may {
		b := asBytes(w)
		for _, more := range [][]byte{{0}, {1}, {16}, {128}, {128, 0}, many(10, byte(128)), many(1000, byte(0)), b} {
			fails(t, name, joined(b, more), api.ErrLong)
		}
	}
}

// P4.1, R2: where several parts are wrong, the first from the left is told.
func TestReadFirst(t *testing.T) {
	for name, c := range map[string]struct {
		b []byte
		e api.Errno
	}{
		"too many, and a token's form":  {[]byte{25, 128, 0}, api.ErrBig},
		"too many, and cut":             {[]byte{25}, api.ErrBig},
		"too many, and left":            {append([]byte{25}, make([]byte, 30)...), api.ErrBig},
		"no form, and a great token":    {[]byte{129, 0, 16}, api.ErrForm},
		"a great token, and cut":        {[]byte{2, 16}, api.ErrBig},
		"a great token, and a form":     {[]byte{2, 16, 128, 0}, api.ErrBig},
		"a form, and a great token":     {[]byte{2, 128, 0, 16}, api.ErrForm},
		"a great token, and left":       {[]byte{1, 16, 0}, api.ErrBig},
		"a form, and left":              {[]byte{1, 128, 0, 0}, api.ErrForm},
		"goes on, and a great one":      {append(append([]byte{2}, bytes.Repeat([]byte{200}, 10)...), 16), api.ErrLong},
		"cut within a great one":        {[]byte{1, 255}, api.ErrShort},
		"fewer tokens than are there":   {[]byte{2, 1, 1, 1}, api.ErrLong},
		"more tokens than are there":    {[]byte{4, 1, 1, 1}, api.ErrShort},
		"none, and a great one is left": {[]byte{0, 200}, api.ErrLong},
	} {
		fails(t, name, c.b, c.e)
	}
}

// P4.1, R3: the word shares nothing with its bytes, nor with another word.
func TestReadSharesNothing(t *testing.T) {
	b := asBytes(full())
	part, all := wide(b, 99)
	w, e := word.Read(part)
	other, f := word.Read(part)
	if e != api.OK || f != api.OK || !slices.Equal(w, full()) || !slices.Equal(other, full()) {
		t.Fatalf("%v, %d and %v, %d", w, e, other, f)
	}
	for i := range all {
		all[i] ^= 85
	}
	_ = append(other, 77)
	for i := range other {
		other[i] = 99
	}
	if !slices.Equal(w, full()) {
		t.Errorf("changed with its bytes, or with another: %v", w)
	}
}

// reading is what the chapter says of Read, worked out a second time: a right number is one byte. (None goes on for ten.)
func reading(b []byte) ([]int, api.Errno) {
	num := func(most int) (int, api.Errno) {
		last := slices.IndexFunc(b, func(b byte) bool { return b < 128 })
		switch {
		case last < 0:
			return 0, api.ErrShort
		case last > 0 && b[last] == 0:
			return 0, api.ErrForm
		case last > 0 || int(b[0]) > most:
			return 0, api.ErrBig
		}
		n := int(b[0])
		b = b[1:]
		return n, api.OK
	}
	size, e := num(24)
	if e != api.OK {
		return nil, e
	}
	w := make([]int, size)
	for i := range w {
		if w[i], e = num(15); e != api.OK {
			return nil, e
		}
	}
	if len(b) > 0 {
		return nil, api.ErrLong
	}
	return w, api.OK
}

// anyWord is a word that may be.
func anyWord(r *rand.Rand) []int {
	w := make([]int, r.Intn(api.MostWord+1))
	for i := range w {
		w[i] = r.Intn(api.MostTerms)
	}
	return w
}

// scratched are the bytes of a word, in which a few may have been changed, put in, or cut. None goes on for ten bytes.
func scratched(r *rand.Rand) []byte {
	b := asBytes(anyWord(r))
	for range r.Intn(3) {
		i := r.Intn(len(b))
		switch r.Intn(5) {
		case 0:
			b[i] = byte(r.Intn(32))
		case 1:
			b = slices.Insert(b, i, byte(r.Intn(32)))
		case 2:
			b = slices.Insert(b, i, 128, 0)
		case 3:
			b[i] |= 128
		default:
			b = b[:i+1]
		}
	}
	return b
}

// P4.1, P4.3: of whatever bytes, the first thing that is wrong is told; bytes come back from their words.
func TestReadAny(t *testing.T) {
	r := rand.New(rand.NewSource(41))
	told := map[api.Errno]int{}
	for range 40000 {
		b := scratched(r)
		want, e := reading(b)
		w, f := word.Read(b)
		if e != f || !slices.Equal(w, want) || e != api.OK && w != nil {
			t.Fatalf("Read(%v): %v, %d, not %v, %d", b, w, f, want, e)
		}
		told[f]++
		if f != api.OK {
			continue
		}
		if back, e := word.Bytes(w); e != api.OK || !bytes.Equal(back, b) || !word.Right(w) {
			t.Fatalf("Bytes(Read(%v)): %v, %d", b, back, e)
		}
	}
	for _, e := range []api.Errno{api.OK, api.ErrForm, api.ErrShort, api.ErrLong, api.ErrBig} {
		if told[e] < 100 {
			t.Errorf("%d was told %d times: too few to show anything", e, told[e])
		}
	}
}

// P4.2: May at each limit and one beyond it, for edits that drop and for those that put in.
func TestMay(t *testing.T) {
	for name, c := range map[string]struct {
		l    []api.Edit
		size int
		want bool
	}{
		"no edits":                             {nil, 3, true},
		"empty":                                {[]api.Edit{}, 3, true},
		"no edits of no tokens":                {nil, 0, true},
		"put in, At below 0":                   {[]api.Edit{put(-1, 0)}, 3, false},
		"put in, At far below 0":               {[]api.Edit{put(math.MinInt, 0)}, 3, false},
		"put in, At 0":                         {[]api.Edit{put(0, 0)}, 3, true},
		"put in, At the last":                  {[]api.Edit{put(2, 0)}, 3, true},
		"put in, At the size":                  {[]api.Edit{put(3, 0)}, 3, true},
		"put in, At beyond":                    {[]api.Edit{put(4, 0)}, 3, false},
		"put in, At far beyond":                {[]api.Edit{put(math.MaxInt, 0)}, 3, false},
		"put in, Tok below 0":                  {[]api.Edit{put(1, -1)}, 3, false},
		"put in, Tok far below 0":              {[]api.Edit{put(1, math.MinInt)}, 3, false},
		"put in, Tok the greatest":             {[]api.Edit{put(1, api.MostTerms-1)}, 3, true},
		"put in, Tok one beyond":               {[]api.Edit{put(1, api.MostTerms)}, 3, false},
		"put in, Tok far beyond":               {[]api.Edit{put(1, math.MaxInt)}, 3, false},
		"drop, At below 0":                     {[]api.Edit{drop(-1)}, 3, false},
		"drop, At far below 0":                 {[]api.Edit{drop(math.MinInt)}, 3, false},
		"drop, At 0":                           {[]api.Edit{drop(0)}, 3, true},
		"drop, At the last":                    {[]api.Edit{drop(2)}, 3, true},
		"drop, At the end":                     {[]api.Edit{drop(3)}, 3, false},
		"drop, At beyond":                      {[]api.Edit{drop(4)}, 3, false},
		"drop, At far beyond":                  {[]api.Edit{drop(math.MaxInt)}, 3, false},
		"drop, Tok below 0":                    {[]api.Edit{{At: 1, Drop: true, Tok: -1}}, 3, false},
		"drop, Tok 1":                          {[]api.Edit{{At: 1, Drop: true, Tok: 1}}, 3, false},
		"drop, Tok the greatest":               {[]api.Edit{{At: 1, Drop: true, Tok: api.MostTerms - 1}}, 3, false},
		"drop, Tok one beyond":                 {[]api.Edit{{At: 1, Drop: true, Tok: api.MostTerms}}, 3, false},
		"put in, put in at the same":           {[]api.Edit{put(1, 3), put(1, 2)}, 3, true},
		"put in, put in behind":                {[]api.Edit{put(1, 3), put(2, 2)}, 3, true},
		"put in, put in ahead":                 {[]api.Edit{put(1, 3), put(0, 2)}, 3, false},
		"put in, put in far ahead":             {[]api.Edit{put(3, 3), put(0, 2)}, 3, false},
		"put in, drop at the same":             {[]api.Edit{put(1, 3), drop(1)}, 3, true},
		"put in, drop behind":                  {[]api.Edit{put(1, 3), drop(2)}, 3, true},
		"put in, drop ahead":                   {[]api.Edit{put(1, 3), drop(0)}, 3, false},
		"drop, put in at the same":             {[]api.Edit{drop(1), put(1, 3)}, 3, false},
		"drop, put in behind":                  {[]api.Edit{drop(1), put(2, 3)}, 3, true},
		"drop, put in ahead":                   {[]api.Edit{drop(1), put(0, 3)}, 3, false},
		"drop, drop at the same":               {[]api.Edit{drop(1), drop(1)}, 3, false},
		"drop, drop behind":                    {[]api.Edit{drop(1), drop(2)}, 3, true},
		"drop, drop ahead":                     {[]api.Edit{drop(1), drop(0)}, 3, false},
		"drop at 0, put in at 0":               {[]api.Edit{drop(0), put(0, 0)}, 3, false},
		"put in, drop, put in at the same":     {[]api.Edit{put(1, 1), drop(1), put(1, 1)}, 3, false},
		"put in, put in, drop at the same":     {[]api.Edit{put(1, 1), put(1, 2), drop(1)}, 3, true},
		"drop the last, put in at the end":     {[]api.Edit{drop(2), put(3, 1)}, 3, true},
		"drop the last, put in at it":          {[]api.Edit{drop(2), put(2, 1)}, 3, false},
		"drop the last, drop at the end":       {[]api.Edit{drop(2), drop(3)}, 3, false},
		"put in at the end, drop there":        {[]api.Edit{put(3, 1), drop(3)}, 3, false},
		"put in at the end, and again":         {[]api.Edit{put(3, 1), put(3, 1)}, 3, true},
		"drop all":                             {[]api.Edit{drop(0), drop(1), drop(2)}, 3, true},
		"drop all, and one more":               {[]api.Edit{drop(0), drop(1), drop(2), drop(3)}, 3, false},
		"falls only behind others":             {[]api.Edit{put(0, 1), put(2, 1), put(1, 1)}, 3, false},
		"falls, but not below the first":       {[]api.Edit{put(0, 1), drop(2), put(1, 1), drop(2)}, 3, false},
		"wrong only the last":                  {[]api.Edit{put(0, 1), drop(1), put(2, 1), put(3, 16)}, 3, false},
		"wrong only the first":                 {[]api.Edit{put(0, -1), drop(1), put(2, 1), put(3, 15)}, 3, false},
		"the chapter's":                        {[]api.Edit{put(0, 1), drop(1), put(3, 2)}, 3, true},
		"size 0, put in at 0":                  {[]api.Edit{put(0, 15)}, 0, true},
		"size 0, put in at 0, and again":       {[]api.Edit{put(0, 15), put(0, 0)}, 0, true},
		"size 0, put in at 1":                  {[]api.Edit{put(1, 15)}, 0, false},
		"size 0, put in below":                 {[]api.Edit{put(-1, 15)}, 0, false},
		"size 0, drop at 0":                    {[]api.Edit{drop(0)}, 0, false},
		"size below 0, put in at 0":            {[]api.Edit{put(0, 0)}, -1, false},
		"size below 0, put in at it":           {[]api.Edit{put(-1, 0)}, -1, false},
		"size below 0, put in below it":        {[]api.Edit{put(-2, 0)}, -1, false},
		"size below 0, drop at 0":              {[]api.Edit{drop(0)}, -1, false},
		"size below 0, drop below it":          {[]api.Edit{drop(-2)}, -1, false},
		"size far below 0, put in at 0":        {[]api.Edit{put(0, 0)}, math.MinInt, false},
		"size far below 0, put in at it":       {[]api.Edit{put(math.MinInt, 0)}, math.MinInt, false},
		"the most tokens, put in at the end":   {[]api.Edit{put(api.MostWord, 0)}, api.MostWord, true},
		"the most tokens, put in beyond":       {[]api.Edit{put(api.MostWord+1, 0)}, api.MostWord, false},
		"the most tokens, drop the last":       {[]api.Edit{drop(api.MostWord - 1)}, api.MostWord, true},
		"the most tokens, drop at the end":     {[]api.Edit{drop(api.MostWord)}, api.MostWord, false},
		"more tokens than may be":              {[]api.Edit{drop(99), put(100, 0)}, 100, true},
		"far more tokens, at the end":          {[]api.Edit{put(math.MaxInt, 0)}, math.MaxInt, true},
		"far more tokens, drop at the end":     {[]api.Edit{drop(math.MaxInt)}, math.MaxInt, false},
		"far more tokens, drop the last":       {[]api.Edit{drop(math.MaxInt - 1), put(math.MaxInt, 0)}, math.MaxInt, true},
		"far more tokens, drop the last twice": {[]api.Edit{drop(math.MaxInt - 1), drop(math.MaxInt - 1)}, math.MaxInt, false},
		"many edits":                           {many(5000, put(1, 1)), 3, true},
		"many edits, and one that may not be":  {append(many(5000, put(1, 1)), put(0, 1)), 3, false},
	} {
		old := slices.Clone(c.l)
		if got := word.May(c.l, c.size); got != c.want {
			t.Errorf("%s: %v", name, got)
		}
		if !slices.Equal(c.l, old) {
			t.Errorf("%s: the edits were changed", name)
		}
	}
}

// Of what a size below 0 is, the chapter doesn't speak: of no edits, none is wrong.
func TestMayNoneOfNoSize(t *testing.T) {
	for _, size := range []int{-1, -25, math.MinInt} {
		if !word.May(nil, size) || !word.May([]api.Edit{}, size) {
			t.Errorf("size %d: no edits may not be", size)
		}
	}
}

// mayBe is what the chapter says of edits, worked out a second time: each against the one ahead and the one behind.
func mayBe(l []api.Edit, size int) bool {
	for i, e := range l {
		switch {
		case e.At < 0, e.At > size, i > 0 && e.At < l[i-1].At:
			return false
		case e.Drop && (e.At >= size || e.Tok != 0 || i+1 < len(l) && l[i+1].At <= e.At):
			return false
		case !e.Drop && (e.Tok < 0 || e.Tok > 15):
			return false
		}
	}
	return true
}

// becomes is what the chapter says of what becomes of a word, worked out a second time: place by place.
func becomes(w []int, l []api.Edit) []int {
	var out []int
	for at := 0; at <= len(w); at++ {
		dropped := false
		for _, e := range l {
			if e.At == at && e.Drop {
				dropped = true
			} else if e.At == at {
				out = append(out, e.Tok)
			}
		}
		if at < len(w) && !dropped {
			out = append(out, w[at])
		}
	}
	return out
}

// holds asks for what becomes of a word that may be, and holds it against the chapter's words; all stays as it was.
func holds(t *testing.T, w []int, l []api.Edit) api.Errno {
	t.Helper()
	want, e := []int(nil), api.OK
	if !mayBe(l, len(w)) {
		e = api.ErrForm
	} else if want = becomes(w, l); len(want) > 24 {
		want, e = nil, api.ErrBig
	}
	oldWord, oldEdits := slices.Clone(w), slices.Clone(l)
	got, f := word.Apply(w, l)
	if f != e || !slices.Equal(got, want) || e != api.OK && got != nil {
		t.Fatalf("Apply(%v, %v): %v, %d, not %v, %d", w, l, got, f, want, e)
	}
	if !slices.Equal(w, oldWord) || !slices.Equal(l, oldEdits) {
		t.Fatalf("Apply(%v, %v) changed them to %v, %v", oldWord, oldEdits, w, l)
	}
	return e
}

// P4.2: May and Apply of all lists of up to three edits, at each edge, of small words.
func TestSmallAll(t *testing.T) {
	for size := -1; size <= 2; size++ {
		var all []api.Edit
		for at := -1; at <= size+1; at++ {
			for _, tok := range []int{-1, 0, 1, 15, 16} {
				all = append(all, api.Edit{At: at, Tok: tok}, api.Edit{At: at, Tok: tok, Drop: true})
			}
		}
		told := 0
		var deeper func(l []api.Edit)
		deeper = func(l []api.Edit) {
			want := mayBe(l, size)
			if word.May(l, size) != want {
				t.Fatalf("May(%v, %d): not %v", l, size, want)
			}
			if want {
				told++
			}
			if size >= 0 {
				holds(t, []int{7, 8}[:size], l)
			}
			if len(l) == 3 {
				return
			}
			for _, e := range all {
				deeper(append(l, e))
			}
		}
		deeper(make([]api.Edit, 0, 4))
		if size >= 0 && told < 30 {
			t.Errorf("size %d: %d may be: too few to show anything", size, told)
		}
	}
}

// P4.2: what becomes of words.
func TestApply(t *testing.T) {
	w := []int{5, 6, 7}
	for name, c := range map[string]struct {
		w    []int
		l    []api.Edit
		want []int
	}{
		"the chapter's":                  {w, []api.Edit{put(0, 1), drop(1), put(3, 2)}, []int{1, 5, 7, 2}},
		"no edits":                       {w, nil, []int{5, 6, 7}},
		"empty edits":                    {w, []api.Edit{}, []int{5, 6, 7}},
		"nothing of nothing":             {nil, nil, nil},
		"put in at the beginning":        {w, []api.Edit{put(0, 1)}, []int{1, 5, 6, 7}},
		"put in in the middle":           {w, []api.Edit{put(1, 1)}, []int{5, 1, 6, 7}},
		"put in ahead of the last":       {w, []api.Edit{put(2, 1)}, []int{5, 6, 1, 7}},
		"put in at the end":              {w, []api.Edit{put(3, 1)}, []int{5, 6, 7, 1}},
		"several at the beginning":       {w, []api.Edit{put(0, 3), put(0, 1), put(0, 2)}, []int{3, 1, 2, 5, 6, 7}},
		"several in the middle":          {w, []api.Edit{put(1, 3), put(1, 1), put(1, 2)}, []int{5, 3, 1, 2, 6, 7}},
		"several at the end":             {w, []api.Edit{put(3, 3), put(3, 1), put(3, 2)}, []int{5, 6, 7, 3, 1, 2}},
		"several, everywhere":            {w, []api.Edit{put(0, 2), put(0, 1), put(1, 4), put(1, 3), put(2, 9), put(2, 8), put(3, 11), put(3, 10)}, []int{2, 1, 5, 4, 3, 6, 9, 8, 7, 11, 10}},
		"of nothing":                     {nil, []api.Edit{put(0, 2), put(0, 15), put(0, 0)}, []int{2, 15, 0}},
		"of an empty word":               {[]int{}, []api.Edit{put(0, 2)}, []int{2}},
		"drop the first":                 {w, []api.Edit{drop(0)}, []int{6, 7}},
		"drop in the middle":             {w, []api.Edit{drop(1)}, []int{5, 7}},
		"drop the last":                  {w, []api.Edit{drop(2)}, []int{5, 6}},
		"drop the outer":                 {w, []api.Edit{drop(0), drop(2)}, []int{6}},
		"drop all":                       {w, []api.Edit{drop(0), drop(1), drop(2)}, nil},
		"drop the only one":              {[]int{0}, []api.Edit{drop(0)}, nil},
		"in another's place":             {w, []api.Edit{put(1, 9), drop(1)}, []int{5, 9, 7}},
		"two in another's place":         {w, []api.Edit{put(1, 9), put(1, 8), drop(1)}, []int{5, 9, 8, 7}},
		"in the place of the first":      {w, []api.Edit{put(0, 9), drop(0)}, []int{9, 6, 7}},
		"in the place of the last":       {w, []api.Edit{put(2, 9), drop(2)}, []int{5, 6, 9}},
		"behind a dropped one":           {w, []api.Edit{drop(0), put(1, 9)}, []int{9, 6, 7}},
		"behind the last, dropped":       {w, []api.Edit{drop(2), put(3, 9)}, []int{5, 6, 9}},
		"0 is put in":                    {w, []api.Edit{put(1, 0)}, []int{5, 0, 6, 7}},
		"one that is there is put in":    {w, []api.Edit{put(1, 6)}, []int{5, 6, 6, 7}},
		"a token is dropped, not others": {[]int{4, 4, 4}, []api.Edit{drop(1)}, []int{4, 4}},
	} {
		got, e := word.Apply(c.w, c.l)
		if !slices.Equal(got, c.want) || e != api.OK {
			t.Errorf("%s: %v, %d, not %v", name, got, e, c.want)
		}
		holds(t, c.w, c.l)
	}
}

// P4.2, R2: each error alone, and which one is told where several apply; nothing is told beside one.
func TestApplyErrors(t *testing.T) {
	long := many(api.MostWord+1, 0)
	for name, c := range map[string]struct {
		w []int
		l []api.Edit
		e api.Errno
	}{
		"a token beyond":                         {[]int{16}, nil, api.ErrArg},
		"a token below 0":                        {[]int{0, -1}, nil, api.ErrArg},
		"too many tokens":                        {long, nil, api.ErrArg},
		"a token beyond that is dropped":         {[]int{16}, []api.Edit{drop(0)}, api.ErrArg},
		"too many tokens, one dropped":           {long, []api.Edit{drop(0)}, api.ErrArg},
		"a fall":                                 {[]int{1, 2}, []api.Edit{put(1, 0), put(0, 0)}, api.ErrForm},
		"beyond the end":                         {[]int{1, 2}, []api.Edit{put(3, 0)}, api.ErrForm},
		"below 0":                                {[]int{1, 2}, []api.Edit{put(-1, 0)}, api.ErrForm},
		"a drop at the end":                      {[]int{1, 2}, []api.Edit{drop(2)}, api.ErrForm},
		"a drop of nothing":                      {nil, []api.Edit{drop(0)}, api.ErrForm},
		"two drops at one place":                 {[]int{1, 2}, []api.Edit{drop(0), drop(0)}, api.ErrForm},
		"put in behind a drop, at its place":     {[]int{1, 2}, []api.Edit{drop(0), put(0, 1)}, api.ErrForm},
		"a drop with a token":                    {[]int{1, 2}, []api.Edit{{At: 0, Drop: true, Tok: 1}}, api.ErrForm},
		"a token beyond is put in":               {[]int{1, 2}, []api.Edit{put(0, 16)}, api.ErrForm},
		"a token below 0 is put in":              {[]int{1, 2}, []api.Edit{put(0, -1)}, api.ErrForm},
		"one more than may be":                   {full(), []api.Edit{put(0, 0)}, api.ErrBig},
		"a word that may not be, and edits":      {[]int{16}, []api.Edit{put(-1, 0)}, api.ErrArg},
		"a word that may not be, and too many":   {[]int{16}, many(24, put(0, 0)), api.ErrArg},
		"too many tokens, and edits":             {long, []api.Edit{drop(25)}, api.ErrArg},
		"too many tokens, and one more":          {long, []api.Edit{put(0, 0)}, api.ErrArg},
		"all of them":                            {long, append(many(30, put(1, 0)), put(0, 0)), api.ErrArg},
		"edits that may not be, and too many":    {full(), []api.Edit{put(1, 0), put(0, 0)}, api.ErrForm},
		"the last may not be, behind too many":   {nil, append(many(30, put(0, 0)), put(0, 16)), api.ErrForm},
		"the last may not be, behind very many":  {nil, append(many(5000, put(0, 0)), put(0, 16)), api.ErrForm},
		"very many, of a word that may not be":   {[]int{16}, append(many(5000, put(0, 0)), put(0, 16)), api.ErrArg},
		"edits that may not be, of a full word":  {full(), []api.Edit{put(25, 0)}, api.ErrForm},
		"as may be of a full word, but too many": {full(), []api.Edit{put(24, 0)}, api.ErrBig},
	} {
		oldWord, oldEdits := slices.Clone(c.w), slices.Clone(c.l)
		if got, e := word.Apply(c.w, c.l); got != nil || e != c.e {
			t.Errorf("%s: %v, %d, not %d", name, got, e, c.e)
		}
		if !slices.Equal(c.w, oldWord) || !slices.Equal(c.l, oldEdits) {
			t.Errorf("%s: an argument was changed", name)
		}
	}
}

// P4.2: words of just MostWord tokens that become of it, and of one more.
func TestApplyBig(t *testing.T) {
	dropped := make([]api.Edit, api.MostWord)
	for i := range dropped {
		dropped[i] = drop(i)
	}
	for name, c := range map[string]struct {
		w    []int
		l    []api.Edit
		more api.Edit
	}{
		"of nothing":                           {nil, many(24, put(0, 3)), put(0, 3)},
		"of one":                               {[]int{9}, many(23, put(0, 3)), put(1, 3)},
		"of one fewer":                         {full()[1:], []api.Edit{put(0, 3)}, put(23, 3)},
		"of as many":                           {full(), nil, put(24, 3)},
		"of as many, one in another's place":   {full(), []api.Edit{put(7, 3), drop(7)}, put(8, 3)},
		"of as many, one ahead, the last less": {full(), []api.Edit{put(0, 3), drop(23)}, put(24, 3)},
		"of as many, the first less":           {full(), []api.Edit{drop(0), put(24, 3)}, put(24, 4)},
		"of which all is dropped":              {full(), joined(dropped, many(24, put(24, 3))), put(24, 3)},
		"put in first, and all dropped":        {full(), joined(many(24, put(0, 3)), dropped), put(24, 3)},
	} {
		if got, e := word.Apply(c.w, c.l); len(got) != api.MostWord || e != api.OK {
			t.Errorf("%s: %v, %d", name, got, e)
		}
		holds(t, c.w, c.l)
		beyond := append(slices.Clone(c.l), c.more)
		if got, e := word.Apply(c.w, beyond); got != nil || e != api.ErrBig {
			t.Errorf("%s, and one more: %v, %d", name, got, e)
		}
		holds(t, c.w, beyond)
	}
	if got, e := word.Apply(full(), many(100000, put(3, 3))); got != nil || e != api.ErrBig {
		t.Errorf("very many: %v, %d", got, e)
	}
}

// anyEdits are edits that mostly may be those of a word of so many tokens.
func anyEdits(r *rand.Rand, size int) []api.Edit {
	var l []api.Edit
	for at := 0; at <= size; at++ {
		for r.Intn(4) == 0 {
			l = append(l, put(at, r.Intn(api.MostTerms)))
		}
		if at < size && r.Intn(3) == 0 {
			l = append(l, drop(at))
		}
	}
	if len(l) > 0 && r.Intn(4) == 0 {
		e := &l[r.Intn(len(l))]
		switch r.Intn(4) {
		case 0:
			e.Drop = !e.Drop
		case 1:
			e.At += r.Intn(3) - 1
		case 2:
			e.Tok += r.Intn(9) - 4
		default:
			i, j := r.Intn(len(l)), r.Intn(len(l))
			l[i], l[j] = l[j], l[i]
		}
	}
	return l
}

// P4.2: Apply of whatever edits, against the chapter's words.
func TestApplyAny(t *testing.T) {
	r := rand.New(rand.NewSource(42))
	told := map[api.Errno]int{}
	for range 40000 {
		w := anyWord(r)
		l := anyEdits(r, len(w))
		if want := mayBe(l, len(w)); word.May(l, len(w)) != want {
			t.Fatalf("May(%v, %d): not %v", l, len(w), want)
		}
		told[holds(t, w, l)]++
	}
	for _, e := range []api.Errno{api.OK, api.ErrForm, api.ErrBig} {
		if told[e] < 100 {
			t.Errorf("%d was told %d times: too few to show anything", e, told[e])
		}
	}
}

// P4.2, R3: the answer shares nothing with the word, also without edits, nor with what the word's memory has behind it.
func TestApplySharesNothing(t *testing.T) {
	for name, edits := range map[string][]api.Edit{
		"no edits":           nil,
		"empty":              {},
		"put in at 0":        {put(0, 1)},
		"put in at the end":  {put(3, 1)},
		"put in everywhere":  {put(0, 1), put(1, 1), put(2, 1), put(3, 1)},
		"drop the first":     {drop(0)},
		"drop the last":      {drop(2)},
		"drop all":           {drop(0), drop(1), drop(2)},
		"in another's place": {put(1, 9), drop(1)},
	} {
		w, behindWord := wide([]int{5, 6, 7}, 99)
		l, behindEdits := wide(edits, put(1, 99))
		oldWord, oldEdits := slices.Clone(behindWord), slices.Clone(behindEdits)
		want := becomes(w, l)
		got, e := word.Apply(w, l)
		again, f := word.Apply(w, l)
		if e != api.OK || f != api.OK || !slices.Equal(got, want) || !slices.Equal(again, want) {
			t.Fatalf("%s: %v, %d and %v, %d, not %v", name, got, e, again, f, want)
		}
		for i := range again {
			again[i] = 77
		}
		_ = append(again, 77, 77, 77)
		if !slices.Equal(behindWord, oldWord) || !slices.Equal(behindEdits, oldEdits) || !slices.Equal(got, want) {
			t.Errorf("%s: an argument, or another answer, changed with the answer", name)
		}
		for i := range behindWord {
			behindWord[i] = 88
		}
		clear(behindEdits)
		if !slices.Equal(got, want) {
			t.Errorf("%s: the answer changed with the arguments: %v", name, got)
		}
	}
}

// P4.3: words come back from their bytes, and bytes from their words.
func TestBack(t *testing.T) {
	r := rand.New(rand.NewSource(43))
	may, _ := words()
	l := [][]int{}
	for _, w := range may {
		l = append(l, w)
	}
	for a := range api.MostTerms {
		l = append(l, []int{a})
		for b := range api.MostTerms {
			l = append(l, []int{a, b})
		}
	}
	for range 2000 {
		l = append(l, anyWord(r))
	}
	for _, w := range l {
		b, e := word.Bytes(w)
		if e != api.OK || !bytes.Equal(b, asBytes(w)) {
			t.Fatalf("Bytes(%v): %v, %d", w, b, e)
		}
		back, e := word.Read(b)
		if e != api.OK || !slices.Equal(back, w) {
			t.Fatalf("Read(%v): %v, %d, not %v", b, back, e, w)
		}
		again, e := word.Bytes(back)
		if e != api.OK || !bytes.Equal(again, b) {
			t.Fatalf("Bytes(%v): %v, %d, not %v", back, again, e, b)
		}
	}
}

// intoDropped are edits by which all tokens of a word are dropped, and others put in, at places that rise.
func intoDropped(size int, other []int, place func() int) []api.Edit {
	places := make([]int, len(other))
	for i := range places {
		places[i] = place()
	}
	slices.Sort(places)
	var l []api.Edit
	i := 0
	for at := 0; at <= size; at++ {
		for ; i < len(other) && places[i] == at; i++ {
			l = append(l, put(at, other[i]))
		}
		if at < size {
			l = append(l, drop(at))
		}
	}
	return l
}

// P4.3: a word of which all is dropped, and into which another one is put, is that one, wherever it is put in; without edits it stays.
func TestFollows(t *testing.T) {
	r := rand.New(rand.NewSource(44))
	for i := range 4000 {
		w, other := anyWord(r), anyWord(r)
		switch i {
		case 0:
			w = nil
		case 1:
			other = nil
		case 2:
			w, other = full(), full()
		case 3:
			w, other = nil, nil
		}
		for name, place := range map[string]func() int{
			"at the beginning": func() int { return 0 },
			"at the end":       func() int { return len(w) },
			"anywhere":         func() int { return r.Intn(len(w) + 1) },
		} {
			l := intoDropped(len(w), other, place)
			if !word.May(l, len(w)) {
				t.Fatalf("%s: %v may not be of %v", name, l, w)
			}
			if got, e := word.Apply(w, l); e != api.OK || !slices.Equal(got, other) {
				t.Fatalf("%s: Apply(%v, %v): %v, %d, not %v", name, w, l, got, e, other)
			}
		}
		if got, e := word.Apply(w, nil); e != api.OK || !slices.Equal(got, w) {
			t.Fatalf("Apply(%v, nil): %v, %d", w, got, e)
		}
	}
}
