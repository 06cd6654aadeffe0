package verdict_test

import (
	"bytes"
	"fmt"
	"slices"
	"testing"

	"probate/api"
	"probate/verdict"
)

// fails is how bytes are held against what goes wrong with them: as a verdict's, or as a proof's.
type fails func(t *testing.T, name string, b []byte, wrong api.Errno)

// sample is numbers that stand one behind the other, and how their bytes are read.
type sample struct {
	l    []place
	fail fails
}

// samples are of verdicts, and of proofs, with something in each part.
func samples() map[string]sample {
	of := func(v verdict.Verdict) sample { return sample{numbersOf(v), verdicts.fails} }
	ofProof := func(p verdict.Proof) sample { return sample{numbersOfProof(p), proofs.fails} }
	return map[string]sample{
		"Accept":       of(verdict.Verdict{Kind: verdict.Accept, Tree: []int{3, 1, 4}, Sure: true}),
		"Reject":       of(verdict.Verdict{Kind: verdict.Reject, At: 7, Expect: 300}),
		"Mended":       of(verdict.Verdict{Kind: verdict.Mended, Tree: []int{2, 59}, At: 1, Expect: 1 << 16, Edits: []api.Edit{{At: 2, Tok: 7}, {At: 2, Drop: true}, {At: 5, Tok: 1}}}),
		"Limit":        of(verdict.Verdict{Kind: verdict.Limit}),
		"no kind":      of(verdict.Verdict{}),
		"what is none": of(verdict.Verdict{Kind: verdict.Limit, Tree: []int{9}, Sure: true, At: 4, Expect: 5, Edits: []api.Edit{{}}}),
		"a proof":      ofProof(verdict.Proof{Sets: [][]api.Item{{{Prod: 1, Dot: 2, From: 3}, greatest}, {}, {{}}}, Leads: [][]int{{1, 2}, {}, {59}}}),
		"sets":         ofProof(setsOf([]api.Item{{Prod: 8}})),
		"leads":        ofProof(leadsOf([]int{8})),
		"nothing":      ofProof(verdict.Proof{}),
	}
}

// fault is bytes, and what goes wrong with them.
type fault struct {
	b []byte
	e api.Errno
}

// faults are bytes that stand for no number up to most.
func faults(most int) map[string]fault {
	return map[string]fault{
		"one above":            {one(most + 1), api.ErrBig},
		"two above":            {one(most + 2), api.ErrBig},
		"above, by a byte":     {one(most + 256), api.ErrBig},
		"above, by 2^32":       {one(most + 1<<32), api.ErrBig},
		"the largest":          {append(many(9, byte(255)), 1), api.ErrBig},
		"a bool's 2, or more":  {one(max(2, most+1)), api.ErrBig},
		"0, of a byte more":    {[]byte{128, 0}, api.ErrForm},
		"1, of a byte more":    {[]byte{129, 0}, api.ErrForm},
		"0, of nine bytes":     {append(many(9, byte(128)), 0), api.ErrForm},
		"above, of more bytes": {append(one(most + 1)[:len(one(most+1))-1], one(most + 1)[len(one(most+1))-1]+128, 0), api.ErrForm},
		"ten that go on":       {many(10, byte(128)), api.ErrLong},
		"more that go on":      {many(30, byte(255)), api.ErrLong},
		"65 bits":              {append(many(9, byte(128)), 2), api.ErrLong},
		"127 at place 9":       {append(many(9, byte(255)), 127), api.ErrLong},
		"eleven bytes":         {append(many(10, byte(129)), 1), api.ErrLong},
	}
}

// P20.2: bytes that are cut after each of their bytes, and bytes with some behind them.
func TestCutAndLeft(t *testing.T) {
	for name, s := range samples() {
		b := put(s.l)
		for many := range b {
			s.fail(t, fmt.Sprint(name, ", cut after ", many), b[:many], api.ErrShort)
			s.fail(t, fmt.Sprint(name, ", cut after ", many, ", shares nothing"), bytes.Clone(b[:many]), api.ErrShort)
		}
		for _, more := range [][]byte{{0}, {1}, {127}, {128}, {255}, {128, 0}, many(10, byte(128)), many(1000, byte(0)), b} {
			s.fail(t, fmt.Sprint(name, ", and ", more), slices.Concat(b, more), api.ErrLong)
		}
	}
	for _, none := range [][]byte{nil, {}, many(5, byte(1))[:0]} {
		verdicts.fails(t, "no bytes", none, api.ErrShort)
		proofs.fails(t, "no bytes", none, api.ErrShort)
	}
}

// P20.2: at each place each number that may not stand there, whatever is behind it: nothing, what else would be right, or what is wrong otherwise.
func TestWrongNumbers(t *testing.T) {
	for name, s := range samples() {
		for at, p := range s.l {
			ahead, behind := put(s.l[:at]), put(s.l[at+1:])
			for fault, f := range faults(p.most) {
				what := fmt.Sprint(name, ", ", p.of, " at ", at, ", ", fault)
				for _, rest := range [][]byte{nil, behind, {0}, {200}, many(10, byte(128)), {128, 0}, make([]byte, 300), slices.Concat(behind, []byte{1})} {
					if f.e == api.ErrLong || f.b[len(f.b)-1] < 128 {
						s.fail(t, what, slices.Concat(ahead, f.b, rest), f.e)
					}
				}
			}
			for _, cut := range []int{1, 2, 8, 9} {
				s.fail(t, fmt.Sprint(name, ", ", p.of, " at ", at, ", goes on for ", cut), slices.Concat(ahead, many(cut, byte(128+cut))), api.ErrShort)
			}
		}
	}
}

// P20.2: the first thing that goes wrong is told, also where a later number is wrong otherwise, at each two places.
func TestFirstWrong(t *testing.T) {
	for name, s := range samples() {
		for at, p := range s.l {
			for late := at + 1; late < len(s.l); late++ {
				ahead, between, behind := put(s.l[:at]), put(s.l[at+1:late]), put(s.l[late+1:])
				for fault, f := range faults(p.most) {
					for other, g := range faults(s.l[late].most) {
						if f.e != g.e {
							s.fail(t, fmt.Sprint(name, ", ", fault, " at ", at, ", ", other, " at ", late), slices.Concat(ahead, f.b, between, g.b, behind), f.e)
						}
					}
				}
			}
		}
	}
}

// P20.2: at each place the greatest that may stand there; where it is how many there are, they aren't there.
func TestGreatestNumbers(t *testing.T) {
	for name, s := range samples() {
		for at, p := range s.l {
			other := slices.Clone(s.l)
			other[at].n = p.most
			b := put(other)
			v, e := verdictOf(b)
			verdicts.reads(t, fmt.Sprint(name, ", ", p.of, " at ", at), b, v, e)
			q, e := proofOf(b)
			proofs.reads(t, fmt.Sprint(name, ", ", p.of, " at ", at), b, q, e)
		}
	}
}

// P20.2: how many there are of each list, at its greatest and one above, where all of them are there.
func TestHowMany(t *testing.T) {
	for name, c := range map[string]struct {
		ahead, one, behind []byte
		most               int
		fail               fails
	}{
		"Tree":      {[]byte{1}, []byte{0}, []byte{0, 0, 0, 0}, mostSteps, verdicts.fails},
		"Edits":     {[]byte{3, 0, 0, 0, 0}, []byte{0, 0, 0}, nil, mostEdits, verdicts.fails},
		"Sets":      {nil, []byte{0}, []byte{0}, mostSets, proofs.fails},
		"items":     {[]byte{1}, []byte{0, 0, 0}, []byte{0}, mostItems, proofs.fails},
		"the last":  {[]byte{3, 0, 0}, []byte{0, 0, 0}, []byte{0}, mostItems, proofs.fails},
		"Leads":     {[]byte{0}, []byte{0}, nil, mostLeads, proofs.fails},
		"a lead":    {[]byte{0, 1}, []byte{0}, nil, mostSteps, proofs.fails},
		"last lead": {[]byte{0, 2, 0}, []byte{0}, nil, mostSteps, proofs.fails},
	} {
		of := func(many int) []byte {
			return slices.Concat(c.ahead, one(many), slices.Repeat(c.one, many), c.behind)
		}
		for _, many := range []int{c.most + 1, c.most + 2, c.most + 128, 2 * c.most, 1 << 14} {
			c.fail(t, fmt.Sprint(name, ", ", many), of(many), api.ErrBig)
		}
		_, e := verdict.Read(of(c.most))
		_, f := verdict.Decode(of(c.most))
		if e != api.OK && f != api.OK {
			t.Errorf("%s: %d aren't read: %d, %d", name, c.most, e, f)
		}
		c.fail(t, name+", one fewer than told", slices.Concat(c.ahead, one(c.most), slices.Repeat(c.one, c.most-1)), api.ErrShort)
		c.fail(t, name+", and one above behind", append(of(c.most), 0), api.ErrLong)
	}
}

// P20.2: bytes by hand, of each sort of error, at the bounds that the chapter names.
func TestReadByHand(t *testing.T) {
	for name, c := range map[string]fault{
		"Kind above Limit":           {[]byte{5, 0, 0, 0, 0, 0}, api.ErrBig},
		"Kind far above":             {[]byte{129, 1, 0, 0, 0, 0, 0}, api.ErrBig},
		"Sure of 2":                  {[]byte{1, 0, 2, 0, 0, 0}, api.ErrBig},
		"Drop of 2":                  {[]byte{3, 0, 0, 0, 0, 1, 0, 2, 0}, api.ErrBig},
		"Expect of 2^17":             {[]byte{2, 0, 0, 0, 128, 128, 8, 0}, api.ErrBig},
		"Expect of 2^32":             {[]byte{2, 0, 0, 0, 128, 128, 128, 128, 16, 0}, api.ErrBig},
		"Expect of 2^32 and 1":       {[]byte{2, 0, 0, 0, 129, 128, 128, 128, 16, 0}, api.ErrBig},
		"At of 25":                   {[]byte{2, 0, 0, 25, 0, 0}, api.ErrBig},
		"a production of 60":         {[]byte{1, 1, 60, 0, 0, 0, 0}, api.ErrBig},
		"a token of 16":              {[]byte{3, 0, 0, 0, 0, 1, 0, 0, 16}, api.ErrBig},
		"an edit at 25":              {[]byte{3, 0, 0, 0, 0, 1, 25, 0, 0}, api.ErrBig},
		"Kind 0":                     {[]byte{0, 0, 0, 0, 0, 0}, api.ErrForm},
		"Kind 0, with a Tree":        {[]byte{0, 1, 0, 0, 0, 0, 0}, api.ErrForm},
		"Kind 0, Sure":               {[]byte{0, 0, 1, 0, 0, 0}, api.ErrForm},
		"Kind 0, and cut":            {[]byte{0, 0, 0, 0, 0}, api.ErrShort},
		"Kind 0, and more":           {[]byte{0, 0, 0, 0, 0, 0, 0}, api.ErrLong},
		"Kind 0, and Sure of 2":      {[]byte{0, 0, 2, 0, 0, 0}, api.ErrBig},
		"Accept with At":             {[]byte{1, 0, 0, 1, 0, 0}, api.ErrForm},
		"Accept with Expect":         {[]byte{1, 0, 0, 0, 1, 0}, api.ErrForm},
		"Accept with an edit":        {[]byte{1, 0, 0, 0, 0, 1, 0, 0, 0}, api.ErrForm},
		"Accept with At, and more":   {[]byte{1, 0, 0, 1, 0, 0, 0}, api.ErrLong},
		"Accept with At, and cut":    {[]byte{1, 0, 0, 1, 0}, api.ErrShort},
		"Accept with At, Expect big": {[]byte{1, 0, 0, 1, 128, 128, 8, 0}, api.ErrBig},
		"Reject with a Tree":         {[]byte{2, 1, 0, 0, 0, 0, 0}, api.ErrForm},
		"Reject that is Sure":        {[]byte{2, 0, 1, 0, 0, 0}, api.ErrForm},
		"Reject with an edit":        {[]byte{2, 0, 0, 0, 0, 1, 0, 0, 0}, api.ErrForm},
		"Reject, a Tree that is big": {[]byte{2, 1, 60, 0, 0, 0, 0}, api.ErrBig},
		"Reject, Sure, and more":     {[]byte{2, 0, 1, 0, 0, 0, 9}, api.ErrLong},
		"Mended that is Sure":        {[]byte{3, 0, 1, 0, 0, 0}, api.ErrForm},
		"Mended, Sure, and more":     {[]byte{3, 0, 1, 0, 0, 0, 0}, api.ErrLong},
		"Mended, Sure, an edit big":  {[]byte{3, 0, 1, 0, 0, 1, 0, 0, 16}, api.ErrBig},
		"Limit with a Tree":          {[]byte{4, 1, 0, 0, 0, 0, 0}, api.ErrForm},
		"Limit that is Sure":         {[]byte{4, 0, 1, 0, 0, 0}, api.ErrForm},
		"Limit with At":              {[]byte{4, 0, 0, 1, 0, 0}, api.ErrForm},
		"Limit with Expect":          {[]byte{4, 0, 0, 0, 1, 0}, api.ErrForm},
		"Limit with an edit":         {[]byte{4, 0, 0, 0, 0, 1, 0, 0, 0}, api.ErrForm},
		"Limit with all":             {[]byte{4, 1, 0, 1, 1, 1, 1, 0, 0, 0}, api.ErrForm},
	} {
		verdicts.fails(t, name, c.b, c.e)
		if _, e := verdictOf(c.b); e != c.e {
			t.Errorf("%s: worked out is %d", name, e)
		}
	}
	verdicts.reads(t, "Expect of 2^17 less 1", []byte{2, 0, 0, 0, 255, 255, 7, 0}, verdict.Verdict{Kind: verdict.Reject, Expect: 131071}, api.OK)
	verdicts.reads(t, "Drop of 1", []byte{3, 0, 0, 0, 0, 1, 0, 1, 0}, verdict.Verdict{Kind: verdict.Mended, Edits: []api.Edit{{Drop: true}}}, api.OK)
}

// P20.2: and so it is of proofs, with which nothing goes wrong behind all numbers.
func TestDecodeByHand(t *testing.T) {
	for name, c := range map[string]fault{
		"26 sets":          {append([]byte{26}, make([]byte, 27)...), api.ErrBig},
		"1501 items":       {slices.Concat([]byte{1, 221, 11}, make([]byte, 4503), []byte{0}), api.ErrBig},
		"Prod of 60":       {[]byte{1, 1, 60, 0, 0, 0}, api.ErrBig},
		"Dot of 9":         {[]byte{1, 1, 0, 9, 0, 0}, api.ErrBig},
		"From of 25":       {[]byte{1, 1, 0, 0, 25, 0}, api.ErrBig},
		"18 leads":         {append([]byte{0, 18}, make([]byte, 18)...), api.ErrBig},
		"2001 productions": {slices.Concat([]byte{0, 1, 209, 15}, make([]byte, 2001)), api.ErrBig},
		"a lead's of 60":   {[]byte{0, 1, 1, 60}, api.ErrBig},
		"no Leads":         {[]byte{0}, api.ErrShort},
		"one set alone":    {[]byte{1, 0}, api.ErrShort},
		"a byte behind":    {[]byte{0, 0, 0}, api.ErrLong},
		"a byte too many":  {[]byte{128, 0, 0}, api.ErrForm},
		"it goes on":       {slices.Concat([]byte{0}, many(10, byte(128))), api.ErrLong},
	} {
		proofs.fails(t, name, c.b, c.e)
		if _, e := proofOf(c.b); e != c.e {
			t.Errorf("%s: worked out is %d", name, e)
		}
	}
	proofs.reads(t, "the greatest item", []byte{1, 1, 59, 8, 24, 0}, setsOf([]api.Item{greatest}), api.OK)
	proofs.reads(t, "the greatest proof", fullBytes(), fullProof(), api.OK)
}

// P20.2: ErrForm of what isn't of its Kind, in any parts at once, with nothing else wrong; ErrLong where bytes are left, too.
func TestReadForm(t *testing.T) {
	names := []string{"At", "Edits", "Expect", "Sure", "Tree"}
	forms := 0
	for kind := range 5 {
		for bits := range 1 << len(names) {
			v := verdict.Verdict{Kind: kind}
			for i, part := range names {
				if bits>>i&1 == 1 {
					parts()[part][0](&v)
				}
			}
			b := put(numbersOf(v))
			what := text(v)
			if formed(v) {
				verdicts.reads(t, what, b, v, api.OK)
			} else {
				forms++
				verdicts.fails(t, what, b, api.ErrForm)
			}
			verdicts.fails(t, what+", and more", append(b, 0), api.ErrLong)
			verdicts.fails(t, what+", and cut", b[:len(b)-1], api.ErrShort)
		}
	}
	if forms != 5*32-4-4-16-1 {
		t.Errorf("%d", forms)
	}
}
