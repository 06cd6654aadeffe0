package gram_test

import (
	"bytes"
	"math"
	"math/rand"
	"slices"
	"testing"

	"probate/api"
	"probate/gram"
)

// t0 and n0 are a terminal and a nonterminal by their number.
func t0(n int) api.Sym { return api.Sym{N: n} }
func n0(n int) api.Sym { return api.Sym{Non: true, N: n} }

// of is a production.
func of(left int, right ...api.Sym) api.Prod { return api.Prod{Left: left, Right: right} }

// example is the chapter's: of the nonterminal come nothing, or the terminal and it.
func example() api.Grammar {
	return api.Grammar{Terms: 1, Nons: 1, Prods: []api.Prod{of(0), of(0, t0(0), n0(0))}}
}

// some is a grammar with nonterminals of several productions, of one, and of none.
func some() api.Grammar {
	return api.Grammar{Terms: 3, Nons: 4, Start: 1, Prods: []api.Prod{
		of(1, n0(3), t0(2)),
		of(0),
		of(1),
		of(3, t0(0), t0(1), n0(1)),
		of(1, n0(1)),
	}}
}

// most is a grammar at all limits.
func most() api.Grammar {
	g := api.Grammar{Terms: api.MostTerms, Nons: api.MostNons, Start: api.MostNons - 1}
	for i := range api.MostProds {
		p := of(i % api.MostNons)
		for j := range api.MostRight {
			if (i+j)%2 == 0 {
				p.Right = append(p.Right, t0((api.MostTerms-1+i*j)%api.MostTerms))
			} else {
				p.Right = append(p.Right, n0((api.MostNons-1+i*j)%api.MostNons))
			}
		}
		g.Prods = append(g.Prods, p)
	}
	return g
}

// copied is a copy, made without the package.
func copied(g api.Grammar) api.Grammar {
	c := api.Grammar{Terms: g.Terms, Nons: g.Nons, Start: g.Start}
	for _, p := range g.Prods {
		q := api.Prod{Left: p.Left}
		for _, s := range p.Right {
			q.Right = append(q.Right, api.Sym{Non: s.Non, N: s.N})
		}
		c.Prods = append(c.Prods, q)
	}
	return c
}

// flat is a grammar as a row of numbers in which no part is lost: two grammars are the same just if these are.
func flat(g api.Grammar) []int {
	l := []int{g.Terms, g.Nons, g.Start, len(g.Prods)}
	for _, p := range g.Prods {
		l = append(l, p.Left, len(p.Right))
		for _, s := range p.Right {
			non := 0
			if s.Non {
				non = 1
			}
			l = append(l, non, s.N)
		}
	}
	return l
}

// alike is Same without the package.
func alike(a, b api.Grammar) bool { return slices.Equal(flat(a), flat(b)) }

// zero tells whether a grammar is the zero value.
func zero(g api.Grammar) bool { return g.Terms == 0 && g.Nons == 0 && g.Start == 0 && g.Prods == nil }

// changed is a grammar in which something was changed.
func changed(g api.Grammar, change func(g *api.Grammar)) api.Grammar {
	change(&g)
	return g
}

// P3.1: Right at each limit, and one beyond it, from below and from above.
func TestRight(t *testing.T) {
	grow := func(p *api.Prod, many int, s api.Sym) {
		p.Right = nil
		for range many {
			p.Right = append(p.Right, s)
		}
	}
	for name, c := range map[string]struct {
		g    api.Grammar
		want bool
	}{
		"the empty grammar":         {api.Grammar{}, false},
		"one nonterminal, no more":  {api.Grammar{Nons: 1}, true},
		"empty productions":         {api.Grammar{Nons: 1, Prods: []api.Prod{}}, true},
		"an empty right side":       {api.Grammar{Nons: 1, Prods: []api.Prod{{Right: []api.Sym{}}}}, true},
		"example":                   {example(), true},
		"some":                      {some(), true},
		"most":                      {most(), true},
		"Terms below 0":             {api.Grammar{Terms: -1, Nons: 1}, false},
		"Terms far below 0":         {api.Grammar{Terms: math.MinInt, Nons: 1}, false},
		"Terms the most":            {api.Grammar{Terms: api.MostTerms, Nons: 1}, true},
		"Terms one more":            {api.Grammar{Terms: api.MostTerms + 1, Nons: 1}, false},
		"Terms as may be of Nons":   {api.Grammar{Terms: api.MostNons, Nons: 1}, false},
		"Terms far more":            {api.Grammar{Terms: math.MaxInt, Nons: 1}, false},
		"Nons 0, Start below":       {api.Grammar{Terms: 1, Nons: 0, Start: -1}, false},
		"Nons 0":                    {api.Grammar{Terms: 1, Nons: 0}, false},
		"Nons below 0":              {api.Grammar{Terms: 1, Nons: -1}, false},
		"Nons below 0, and Start":   {api.Grammar{Terms: 1, Nons: -1, Start: -2}, false},
		"Nons the most":             {api.Grammar{Nons: api.MostNons}, true},
		"Nons one more":             {api.Grammar{Nons: api.MostNons + 1}, false},
		"Nons far more":             {api.Grammar{Nons: math.MaxInt}, false},
		"Start below 0":             {api.Grammar{Nons: 2, Start: -1}, false},
		"Start the last":            {api.Grammar{Nons: 2, Start: 1}, true},
		"Start one more":            {api.Grammar{Nons: 2, Start: 2}, false},
		"Start the last of all":     {api.Grammar{Nons: api.MostNons, Start: api.MostNons - 1}, true},
		"Start one more than all":   {api.Grammar{Nons: api.MostNons, Start: api.MostNons}, false},
		"Start a terminal alone":    {api.Grammar{Terms: 5, Nons: 2, Start: 3}, false},
		"productions the most":      {api.Grammar{Nons: 1, Prods: make([]api.Prod, api.MostProds)}, true},
		"productions one more":      {api.Grammar{Nons: 1, Prods: make([]api.Prod, api.MostProds+1)}, false},
		"Left below 0":              {changed(some(), func(g *api.Grammar) { g.Prods[2].Left = -1 }), false},
		"Left the last":             {changed(some(), func(g *api.Grammar) { g.Prods[2].Left = 3 }), true},
		"Left one more":             {changed(some(), func(g *api.Grammar) { g.Prods[2].Left = 4 }), false},
		"the first Left one more":   {changed(some(), func(g *api.Grammar) { g.Prods[0].Left = 4 }), false},
		"the last Left one more":    {changed(some(), func(g *api.Grammar) { g.Prods[4].Left = 4 }), false},
		"Left a terminal alone":     {changed(some(), func(g *api.Grammar) { g.Terms, g.Prods[1].Left = 9, 8 }), false},
		"symbols the most":          {changed(some(), func(g *api.Grammar) { grow(&g.Prods[1], api.MostRight, n0(3)) }), true},
		"symbols one more":          {changed(some(), func(g *api.Grammar) { grow(&g.Prods[1], api.MostRight+1, n0(3)) }), false},
		"the last's, one more":      {changed(some(), func(g *api.Grammar) { grow(&g.Prods[4], api.MostRight+1, t0(0)) }), false},
		"terminal below 0":          {changed(some(), func(g *api.Grammar) { g.Prods[3].Right[0] = t0(-1) }), false},
		"terminal the last":         {changed(some(), func(g *api.Grammar) { g.Prods[3].Right[0] = t0(2) }), true},
		"terminal one more":         {changed(some(), func(g *api.Grammar) { g.Prods[3].Right[0] = t0(3) }), false},
		"terminal behind, one more": {changed(some(), func(g *api.Grammar) { g.Prods[3].Right[1] = t0(3) }), false},
		"terminal of none":          {api.Grammar{Nons: 1, Prods: []api.Prod{of(0, t0(0))}}, false},
		"nonterminal below 0":       {changed(some(), func(g *api.Grammar) { g.Prods[3].Right[2] = n0(-1) }), false},
		"nonterminal 0":             {changed(some(), func(g *api.Grammar) { g.Prods[3].Right[2] = n0(0) }), true},
		"nonterminal the last":      {changed(some(), func(g *api.Grammar) { g.Prods[3].Right[2] = n0(3) }), true},
		"nonterminal one more":      {changed(some(), func(g *api.Grammar) { g.Prods[3].Right[2] = n0(4) }), false},
		"only a terminal's number":  {api.Grammar{Terms: 2, Nons: 1, Prods: []api.Prod{of(0, n0(1))}}, false},
		"a terminal's number":       {api.Grammar{Terms: 2, Nons: 1, Prods: []api.Prod{of(0, t0(1))}}, true},
		"only a nonterminal's":      {api.Grammar{Terms: 1, Nons: 2, Prods: []api.Prod{of(0, t0(1))}}, false},
		"a nonterminal's number":    {api.Grammar{Terms: 1, Nons: 2, Prods: []api.Prod{of(0, n0(1))}}, true},
		"far beyond":                {api.Grammar{Terms: 1, Nons: 2, Prods: []api.Prod{of(0, n0(math.MaxInt))}}, false},
		"far below":                 {api.Grammar{Terms: 1, Nons: 2, Prods: []api.Prod{of(0, t0(math.MinInt))}}, false},
	} {
		old := copied(c.g)
		if got := gram.Right(c.g); got != c.want {
			t.Errorf("%s: %v", name, got)
		}
		if !alike(c.g, old) {
			t.Errorf("%s: the grammar was changed", name)
		}
	}
}

// parts are changes of some(), each of just one place.
func parts() map[string]func(g *api.Grammar) {
	return map[string]func(g *api.Grammar){
		"Terms":                     func(g *api.Grammar) { g.Terms++ },
		"Nons":                      func(g *api.Grammar) { g.Nons++ },
		"Start":                     func(g *api.Grammar) { g.Start++ },
		"the first Left":            func(g *api.Grammar) { g.Prods[0].Left = 2 },
		"a Left":                    func(g *api.Grammar) { g.Prods[3].Left = 2 },
		"the last Left":             func(g *api.Grammar) { g.Prods[4].Left = 2 },
		"the first N":               func(g *api.Grammar) { g.Prods[0].Right[0].N = 2 },
		"the first Non":             func(g *api.Grammar) { g.Prods[3].Right[0].Non = true },
		"an N":                      func(g *api.Grammar) { g.Prods[3].Right[1].N = 2 },
		"a Non":                     func(g *api.Grammar) { g.Prods[3].Right[1].Non = true },
		"a Non, the other way":      func(g *api.Grammar) { g.Prods[3].Right[2].Non = false },
		"the last N":                func(g *api.Grammar) { g.Prods[4].Right[0].N = 2 },
		"the last Non":              func(g *api.Grammar) { g.Prods[4].Right[0].Non = false },
		"a symbol more":             func(g *api.Grammar) { g.Prods[3].Right = append(g.Prods[3].Right, api.Sym{}) },
		"a symbol more, of none":    func(g *api.Grammar) { g.Prods[1].Right = append(g.Prods[1].Right, api.Sym{}) },
		"a symbol fewer":            func(g *api.Grammar) { g.Prods[3].Right = g.Prods[3].Right[:2] },
		"the first symbol fewer":    func(g *api.Grammar) { g.Prods[3].Right = g.Prods[3].Right[1:] },
		"no symbols":                func(g *api.Grammar) { g.Prods[4].Right = nil },
		"a production more":         func(g *api.Grammar) { g.Prods = append(g.Prods, api.Prod{}) },
		"a production fewer":        func(g *api.Grammar) { g.Prods = g.Prods[:4] },
		"the first fewer":           func(g *api.Grammar) { g.Prods = g.Prods[1:] },
		"no productions":            func(g *api.Grammar) { g.Prods = nil },
		"productions in turn":       func(g *api.Grammar) { g.Prods[1], g.Prods[2] = g.Prods[2], g.Prods[1] },
		"symbols in turn":           func(g *api.Grammar) { r := g.Prods[3].Right; r[0], r[1] = r[1], r[0] },
		"a symbol in the next":      func(g *api.Grammar) { g.Prods[4].Right, g.Prods[2].Right = nil, g.Prods[4].Right },
		"what may not be":           func(g *api.Grammar) { g.Prods[4].Right[0].N = -1 },
		"what may not be, far away": func(g *api.Grammar) { g.Start = math.MinInt },
	}
}

// P3.1: Same of grammars that part in just one place, for each place there is.
func TestSame(t *testing.T) {
	for _, made := range []func() api.Grammar{example, some, most, func() api.Grammar { return api.Grammar{} }} {
		if !gram.Same(made(), made()) {
			t.Errorf("%v isn't the same as itself", made())
		}
	}
	for name, change := range parts() {
		other := changed(some(), change)
		if gram.Same(some(), other) || gram.Same(other, some()) {
			t.Errorf("%s: the same", name)
		}
		if !gram.Same(other, changed(some(), change)) {
			t.Errorf("%s: not the same as itself", name)
		}
	}
	if gram.Same(example(), some()) || gram.Same(most(), some()) || gram.Same(api.Grammar{}, example()) {
		t.Error("others are the same")
	}
}

// P3.1: of grammars at all limits, each production and each symbol is held against its own.
func TestSameEach(t *testing.T) {
	for i := range api.MostProds {
		g := most()
		if g.Prods[i].Left++; gram.Same(g, most()) || gram.Same(most(), g) {
			t.Errorf("Left of %d", i)
		}
		for j := range api.MostRight {
			g := most()
			if g.Prods[i].Right[j].N++; gram.Same(g, most()) || gram.Same(most(), g) {
				t.Errorf("N of %d, %d", i, j)
			}
			g = most()
			g.Prods[i].Right[j].Non = !g.Prods[i].Right[j].Non
			if gram.Same(g, most()) || gram.Same(most(), g) {
				t.Errorf("Non of %d, %d", i, j)
			}
		}
	}
}

// P3.1, R6: an empty list and none are one.
func TestSameEmpty(t *testing.T) {
	none := api.Grammar{Nons: 1}
	empty := api.Grammar{Nons: 1, Prods: []api.Prod{}}
	if !gram.Same(none, empty) || !gram.Same(empty, none) {
		t.Error("productions")
	}
	none = api.Grammar{Nons: 1, Prods: []api.Prod{{}}}
	empty = api.Grammar{Nons: 1, Prods: []api.Prod{{Right: []api.Sym{}}}}
	if !gram.Same(none, empty) || !gram.Same(empty, none) {
		t.Error("symbols")
	}
	a, e := gram.Bytes(none)
	b, f := gram.Bytes(empty)
	if e != api.OK || f != api.OK || !bytes.Equal(a, b) {
		t.Errorf("bytes: %v, %d and %v, %d", a, e, b, f)
	}
}

// P3.1, R3: what is changed in a copy changes nothing of the grammar, nor the other way round.
func TestClone(t *testing.T) {
	for _, made := range []func() api.Grammar{example, some, most, func() api.Grammar { return api.Grammar{Terms: -7, Nons: 99, Start: -1} }} {
		g := made()
		c := gram.Clone(g)
		if !alike(c, g) || !alike(g, made()) {
			t.Fatalf("%v, of %v", c, g)
		}
		spoil(&c)
		if !alike(g, made()) {
			t.Errorf("changed with its copy: %v", g)
		}
		c = gram.Clone(g)
		spoil(&g)
		if !alike(c, made()) {
			t.Errorf("a copy changed with its grammar: %v", c)
		}
	}
	if c := gram.Clone(api.Grammar{}); c.Terms != 0 || c.Nons != 0 || c.Start != 0 || len(c.Prods) != 0 {
		t.Errorf("of the zero value: %v", c)
	}
}

// spoil changes all there is, in place, and all that stands behind it in the same memory.
func spoil(g *api.Grammar) {
	g.Terms, g.Nons, g.Start = g.Terms+1, g.Nons+1, g.Start+1
	for i, p := range g.Prods {
		for j, s := range p.Right {
			p.Right[j] = api.Sym{Non: !s.Non, N: s.N + 1}
		}
		_ = append(p.Right, t0(77), t0(78))
		g.Prods[i].Left++
	}
	_ = append(g.Prods, of(77), of(78))
}

// P3.1, R3: lists of which the memory goes on behind their end are copied too, and so are two lists that share memory.
func TestCloneShared(t *testing.T) {
	row := []api.Sym{t0(0), n0(0), t0(1), n0(1)}
	prods := []api.Prod{{Left: 0, Right: row[:2]}, {Left: 1, Right: row[1:3]}, {Left: 0, Right: row[:0]}, {Left: 1}}
	g := api.Grammar{Terms: 2, Nons: 2, Prods: prods[:3]}
	c := gram.Clone(g)
	for i, p := range c.Prods {
		for j := range p.Right {
			p.Right[j].N += 10 * (i + 1)
		}
		_ = append(p.Right, t0(99))
	}
	_ = append(c.Prods, of(99))
	if !slices.Equal(row, []api.Sym{t0(0), n0(0), t0(1), n0(1)}) || prods[3].Left != 1 {
		t.Errorf("%v, %v", row, prods)
	}
	if want := []api.Sym{t0(10), n0(10)}; !slices.Equal(c.Prods[0].Right, want) {
		t.Errorf("first: %v, not %v", c.Prods[0].Right, want)
	}
	if want := []api.Sym{n0(20), t0(21)}; !slices.Equal(c.Prods[1].Right, want) {
		t.Errorf("second: %v, not %v", c.Prods[1].Right, want)
	}
	for i := range c.Prods {
		for j := range c.Prods {
			if p, q := c.Prods[i].Right, c.Prods[j].Right; i != j && cap(p) > 0 && cap(q) > 0 && &p[:1][0] == &q[:1][0] {
				t.Errorf("%d and %d share memory", i, j)
			}
		}
	}
}

// P3.1: the productions of a nonterminal, rising.
func TestOf(t *testing.T) {
	for _, c := range []struct {
		g    api.Grammar
		non  int
		want []int
	}{
		{some(), 0, []int{1}},
		{some(), 1, []int{0, 2, 4}},
		{some(), 2, nil},
		{some(), 3, []int{3}},
		{some(), 4, nil},
		{some(), -1, nil},
		{some(), math.MinInt, nil},
		{some(), math.MaxInt, nil},
		{example(), 0, []int{0, 1}},
		{example(), 1, nil},
		{most(), 0, []int{0, 24, 48}},
		{most(), 11, []int{11, 35, 59}},
		{most(), 12, []int{12, 36}},
		{most(), 23, []int{23, 47}},
		{most(), 24, nil},
		{api.Grammar{Nons: 1}, 0, nil},
		{api.Grammar{}, 0, nil},
	} {
		old := copied(c.g)
		got := gram.Of(c.g, c.non)
		if !slices.Equal(got, c.want) {
			t.Errorf("Of(%v, %d): %v, not %v", c.g, c.non, got, c.want)
		}
		for i := range got {
			got[i] = 99
		}
		if !alike(c.g, old) {
			t.Errorf("Of(%d): the grammar was changed", c.non)
		}
		if again := gram.Of(c.g, c.non); !slices.Equal(again, c.want) {
			t.Errorf("Of(%d) again: %v, not %v", c.non, again, c.want)
		}
	}
	all := make([]api.Prod, api.MostProds)
	for i, n := range gram.Of(api.Grammar{Nons: 1, Prods: all}, 0) {
		if i != n {
			t.Errorf("at %d: %d", i, n)
		}
	}
}

// P3.1: each production is of one nonterminal, its own.
func TestOfAll(t *testing.T) {
	r := rand.New(rand.NewSource(31))
	for range 500 {
		g := anyOne(r)
		seen := make([]int, len(g.Prods))
		for non := -2; non < api.MostNons+2; non++ {
			last := -1
			for _, i := range gram.Of(g, non) {
				if i <= last || g.Prods[i].Left != non {
					t.Fatalf("Of(%v, %d): %v", g, non, gram.Of(g, non))
				}
				last = i
				seen[i]++
			}
		}
		for i, n := range seen {
			if n != 1 {
				t.Fatalf("%v: production %d was told %d times", g, i, n)
			}
		}
	}
}

// P3.2: the chapter's example.
func TestExample(t *testing.T) {
	want := []byte{1, 1, 0, 2, 0, 0, 0, 2, 0, 1}
	b, e := gram.Bytes(example())
	if e != api.OK || !bytes.Equal(b, want) {
		t.Errorf("bytes: %v, %d", b, e)
	}
	g, e := gram.Read(want)
	if e != api.OK || !alike(g, example()) {
		t.Errorf("grammar: %v, %d", g, e)
	}
}

// asBytes is a grammar's bytes, as the chapter says it: no number of one needs more than one byte.
func asBytes(g api.Grammar) []byte {
	b := []byte{byte(g.Terms), byte(g.Nons), byte(g.Start), byte(len(g.Prods))}
	for _, p := range g.Prods {
		b = append(b, byte(p.Left), byte(len(p.Right)))
		for _, s := range p.Right {
			n := byte(s.N) + byte(s.N)
			if s.Non {
				n++
			}
			b = append(b, n)
		}
	}
	return b
}

// P3.2: a grammar's bytes; the grammar stays as it was, and its bytes are new ones.
func TestBytes(t *testing.T) {
	for _, c := range []struct {
		g api.Grammar
		b []byte
	}{
		{api.Grammar{Nons: 1}, []byte{0, 1, 0, 0}},
		{api.Grammar{Terms: 16, Nons: 24, Start: 23}, []byte{16, 24, 23, 0}},
		{some(), []byte{3, 4, 1, 5, 1, 2, 7, 4, 0, 0, 1, 0, 3, 3, 0, 2, 3, 1, 1, 3}},
		{api.Grammar{Terms: 16, Nons: 24, Prods: []api.Prod{of(23, t0(15), n0(23), n0(0), t0(0))}}, []byte{16, 24, 0, 1, 23, 4, 30, 47, 1, 0}},
		{most(), asBytes(most())},
	} {
		old := copied(c.g)
		b, e := gram.Bytes(c.g)
		if e != api.OK || !bytes.Equal(b, c.b) {
			t.Errorf("Bytes(%v): %v, %d, not %v", c.g, b, e, c.b)
		}
		clear(b)
		if again, e := gram.Bytes(c.g); e != api.OK || !bytes.Equal(again, c.b) {
			t.Errorf("Bytes(%v) again: %v, %d, not %v", c.g, again, e, c.b)
		}
		if !alike(c.g, old) {
			t.Errorf("the grammar was changed: %v", c.g)
		}
	}
}

// P3.2, R2: of a grammar that may not be there are no bytes.
func TestBytesWrong(t *testing.T) {
	for name, g := range map[string]api.Grammar{
		"the empty grammar": {},
		"Terms below 0":     {Terms: -1, Nons: 1},
		"Terms":             {Terms: api.MostTerms + 1, Nons: 1},
		"Nons":              {Nons: api.MostNons + 1},
		"Start":             {Nons: 1, Start: 1},
		"Start below 0":     {Nons: 1, Start: -1},
		"productions":       {Nons: 1, Prods: make([]api.Prod, api.MostProds+1)},
		"Left":              {Nons: 1, Prods: []api.Prod{of(1)}},
		"symbols":           {Nons: 1, Prods: []api.Prod{{Right: make([]api.Sym, api.MostRight+1)}}},
		"a terminal":        {Terms: 1, Nons: 2, Prods: []api.Prod{of(1, t0(1))}},
		"a nonterminal":     {Terms: 2, Nons: 1, Prods: []api.Prod{of(0, n0(1))}},
		"the last":          {Terms: 2, Nons: 1, Prods: []api.Prod{of(0), of(0), of(0, t0(1), n0(0), t0(-1))}},
	} {
		if b, e := gram.Bytes(g); e != api.ErrArg || b != nil {
			t.Errorf("%s: %v, %d", name, b, e)
		}
	}
}

// fails holds what Read says of bytes against an error, with nothing beside it.
func fails(t *testing.T, name string, b []byte, want api.Errno) {
	t.Helper()
	old := bytes.Clone(b)
	g, e := gram.Read(b)
	if e != want || !zero(g) {
		t.Errorf("%s: Read(%v): %v, %d, not %d", name, old, g, e, want)
	}
	if !bytes.Equal(b, old) {
		t.Errorf("%s: the bytes were changed: %v, of %v", name, b, old)
	}
}

// places are the numbers of a grammar's bytes, in their order: each one at its limit, and which limit that is.
func places() (b []byte, limits []int) {
	b = []byte{16, 24, 23, 60}
	limits = []int{16, 24, 23, 60}
	for range api.MostProds {
		b = append(b, 23, 8, 47, 46, 30, 47, 47, 47, 47, 47)
		limits = append(limits, 23, 8, 47, 47, 47, 47, 47, 47, 47, 47)
	}
	return b, limits
}

// P3.2: a reader's errors at each of the numbers of a grammar, each number at its limit, and beyond it.
func TestReadWrong(t *testing.T) {
	b, limits := places()
	for i, most := range limits {
		ahead := b[:i:i]
		fails(t, "cut", ahead, api.ErrShort)
		fails(t, "goes on", append(ahead, 128), api.ErrShort)
		fails(t, "goes on for long", append(ahead, bytes.Repeat([]byte{255}, 10)...), api.ErrLong)
		fails(t, "goes on for long, and more", append(ahead, bytes.Repeat([]byte{128}, 30)...), api.ErrLong)
		fails(t, "a byte too many", append(ahead, 129, 0), api.ErrForm)
		fails(t, "a byte too many, and more", append(append(ahead, 128, 0), b[i+1:]...), api.ErrForm)
		fails(t, "beyond", append(ahead, byte(most+1)), api.ErrBig)
		fails(t, "beyond, and more", append(append(ahead, byte(most+1)), b[i+1:]...), api.ErrBig)
		fails(t, "far beyond", append(ahead, 255, 255, 255, 255, 255, 255, 255, 255, 255, 1), api.ErrBig)
		atLimit := append(ahead, byte(most))
		if i+1 < len(limits) {
			fails(t, "at its limit", atLimit, api.ErrShort)
		}
		fails(t, "at its limit, and wrong behind", append(atLimit, 128, 0), wrongBehind(i, len(limits)))
	}
}

// wrongBehind is what is told of 128 0 behind the number at i: behind the last, it isn't read.
func wrongBehind(i, many int) api.Errno {
	if i+1 < many {
		return api.ErrForm
	}
	return api.ErrLong
}

// P3.2: bytes that are left.
func TestReadLeft(t *testing.T) {
	for _, g := range []api.Grammar{example(), some(), most(), {Nons: 1}} {
		b := asBytes(g)
		for _, more := range [][]byte{{0}, {1}, {128}, {128, 0}, {0, 0, 0}, b} {
			fails(t, "left", append(slices.Clip(b), more...), api.ErrLong)
		}
	}
}

// P3.2: grammars that can be read and may not be.
func TestReadForm(t *testing.T) {
	for name, b := range map[string][]byte{
		"no nonterminals":                {0, 0, 0, 0},
		"no nonterminals, but terminals": {16, 0, 0, 0},
		"Start":                          {0, 1, 1, 0},
		"Start, the greatest":            {0, 23, 23, 0},
		"Left":                           {1, 1, 0, 1, 1, 0},
		"Left, the greatest":             {1, 23, 0, 1, 23, 0},
		"Left of the last":               {1, 1, 0, 2, 0, 0, 1, 0},
		"a terminal of none":             {0, 1, 0, 1, 0, 1, 0},
		"a terminal":                     {1, 2, 0, 1, 0, 1, 2},
		"a terminal, behind others":      {1, 2, 0, 1, 0, 3, 0, 3, 2},
		"a terminal above all":           {16, 24, 0, 1, 0, 1, 32},
		"the greatest terminal":          {16, 24, 0, 1, 0, 1, 46},
		"a nonterminal":                  {2, 1, 0, 1, 0, 1, 3},
		"the greatest nonterminal":       {16, 23, 0, 1, 0, 1, 47},
	} {
		fails(t, name, b, api.ErrForm)
	}
	for name, b := range map[string][]byte{
		"no terminals":    {0, 1, 0, 0},
		"Start":           {0, 24, 23, 0},
		"Left":            {1, 24, 0, 1, 23, 0},
		"a terminal":      {16, 1, 0, 1, 0, 1, 30},
		"a nonterminal":   {0, 24, 0, 1, 0, 1, 47},
		"no symbols":      {0, 1, 0, 1, 0, 0},
		"all productions": append([]byte{0, 1, 0, 60}, make([]byte, 120)...),
	} {
		g, e := gram.Read(b)
		if e != api.OK || !bytes.Equal(asBytes(g), b) {
			t.Errorf("%s: %v, %d", name, g, e)
		}
	}
}

// P3.2, R2: where several are wrong, the first that is read is told, and what a reader tells ahead of what may not be.
func TestReadFirst(t *testing.T) {
	for name, c := range map[string]struct {
		b []byte
		e api.Errno
	}{
		"nothing":                            {nil, api.ErrShort},
		"Terms, and Nons":                    {[]byte{17, 128, 0, 0, 0}, api.ErrBig},
		"Nons, and Terms is fine":            {[]byte{16, 128, 0, 0, 0}, api.ErrForm},
		"Nons beyond, and Start":             {[]byte{16, 25, 128, 0, 0}, api.ErrBig},
		"Start beyond, and cut":              {[]byte{16, 24, 24}, api.ErrBig},
		"productions beyond, and a form":     {[]byte{16, 24, 23, 61, 128, 0}, api.ErrBig},
		"Left beyond, and symbols":           {[]byte{1, 1, 0, 1, 24, 128, 0}, api.ErrBig},
		"symbols beyond, and a symbol":       {[]byte{1, 1, 0, 1, 0, 9, 128, 0}, api.ErrBig},
		"a symbol's form, and a greater one": {[]byte{1, 1, 0, 1, 0, 2, 128, 0, 48}, api.ErrForm},
		"a greater symbol, and a form":       {[]byte{1, 1, 0, 1, 0, 2, 48, 128, 0}, api.ErrBig},
		"the second production":              {[]byte{1, 1, 0, 2, 0, 0, 24, 128}, api.ErrBig},
		"no such Start, and cut":             {[]byte{1, 1, 1}, api.ErrShort},
		"no such Start, and left":            {[]byte{1, 1, 1, 0, 0}, api.ErrLong},
		"no such Start, and a symbol":        {[]byte{1, 1, 1, 1, 0, 1, 48}, api.ErrBig},
		"no such Left, and cut":              {[]byte{1, 1, 0, 1, 1}, api.ErrShort},
		"no such Left, and left":             {[]byte{1, 1, 0, 1, 1, 0, 128}, api.ErrLong},
		"no such terminal, and left":         {[]byte{1, 1, 0, 1, 0, 1, 2, 7}, api.ErrLong},
		"no such nonterminal, and beyond":    {[]byte{1, 1, 0, 1, 0, 2, 3, 48}, api.ErrBig},
		"no nonterminals, and beyond":        {[]byte{1, 0, 24, 0}, api.ErrBig},
		"beyond, and left":                   {[]byte{17, 1, 0, 0, 0, 0}, api.ErrBig},
	} {
		fails(t, name, c.b, c.e)
	}
}

// P3.2, R3: the grammar shares nothing with its bytes, nor its lists with each other.
func TestReadShares(t *testing.T) {
	for _, want := range []api.Grammar{example(), some(), most()} {
		b := asBytes(want)
		g, e := gram.Read(b)
		if e != api.OK || !alike(g, want) {
			t.Fatalf("%v, %d, not %v", g, e, want)
		}
		for i := range b {
			b[i] ^= 85
		}
		if !alike(g, want) {
			t.Errorf("changed with its bytes: %v", g)
		}
		old := bytes.Clone(b)
		for _, p := range g.Prods {
			_ = append(p.Right, t0(77))
		}
		if !alike(g, want) {
			t.Errorf("lists share memory: %v", g)
		}
		spoil(&g)
		if !bytes.Equal(b, old) {
			t.Errorf("bytes changed with their grammar: %v", b)
		}
		if again, e := gram.Read(asBytes(want)); e != api.OK || !alike(again, want) {
			t.Errorf("again: %v, %d", again, e)
		}
	}
}

// anyOne is a grammar that may be.
func anyOne(r *rand.Rand) api.Grammar {
	g := api.Grammar{Terms: r.Intn(api.MostTerms + 1), Nons: 1 + r.Intn(api.MostNons)}
	g.Start = r.Intn(g.Nons)
	for range r.Intn(api.MostProds + 1) {
		p := of(r.Intn(g.Nons))
		for range r.Intn(api.MostRight + 1) {
			if g.Terms > 0 && r.Intn(2) == 0 {
				p.Right = append(p.Right, t0(r.Intn(g.Terms)))
			} else {
				p.Right = append(p.Right, n0(r.Intn(g.Nons)))
			}
		}
		g.Prods = append(g.Prods, p)
	}
	return g
}

// P3.3: grammars come back from their bytes.
func TestBack(t *testing.T) {
	r := rand.New(rand.NewSource(33))
	l := []api.Grammar{example(), some(), most(), {Nons: 1}, {Nons: 1, Prods: make([]api.Prod, api.MostProds)}}
	for range 2000 {
		l = append(l, anyOne(r))
	}
	for _, g := range l {
		b, e := gram.Bytes(g)
		if e != api.OK || !gram.Right(g) || !bytes.Equal(b, asBytes(g)) {
			t.Fatalf("Bytes(%v): %v, %d", g, b, e)
		}
		back, e := gram.Read(b)
		if e != api.OK || !alike(back, g) || !gram.Same(back, g) || !gram.Same(gram.Clone(g), back) {
			t.Fatalf("Read(%v): %v, %d, not %v", b, back, e, g)
		}
	}
}

// reading is what the chapter says of Read, worked out a second time: a right number is one byte. (None goes on for ten.)
type reading struct {
	b []byte
	e api.Errno
}

func (r *reading) num(most int) int {
	last := slices.IndexFunc(r.b, func(b byte) bool { return b < 128 })
	switch {
	case r.e != api.OK:
		return 0
	case last < 0:
		r.e = api.ErrShort
	case last > 0 && r.b[last] == 0:
		r.e = api.ErrForm
	case last > 0 || int(r.b[0]) > most:
		r.e = api.ErrBig
	default:
		n := int(r.b[0])
		r.b = r.b[1:]
		return n
	}
	return 0
}

func (r *reading) grammar() (g api.Grammar, e api.Errno) {
	g.Terms, g.Nons, g.Start = r.num(16), r.num(24), r.num(23)
	right := g.Nons > 0 && g.Start < g.Nons
	for range r.num(60) {
		p := of(r.num(23))
		right = right && p.Left < g.Nons
		for range r.num(8) {
			n := r.num(47)
			s := api.Sym{Non: n&1 == 1, N: n >> 1}
			right = right && (s.Non && s.N < g.Nons || !s.Non && s.N < g.Terms)
			p.Right = append(p.Right, s)
		}
		g.Prods = append(g.Prods, p)
	}
	switch {
	case r.e != api.OK:
		return api.Grammar{}, r.e
	case len(r.b) > 0:
		return api.Grammar{}, api.ErrLong
	case !right:
		return api.Grammar{}, api.ErrForm
	}
	return g, api.OK
}

// P3.2, P3.3: of whatever bytes, the first thing that is wrong is told; bytes come back from their grammars.
func TestReadAny(t *testing.T) {
	r := rand.New(rand.NewSource(32))
	told := map[api.Errno]int{}
	for range 40000 {
		b := scratched(r)
		want, e := (&reading{b: b}).grammar()
		g, f := gram.Read(b)
		if e != f || !alike(g, want) || e != api.OK && !zero(g) {
			t.Fatalf("Read(%v): %v, %d, not %v, %d", b, g, f, want, e)
		}
		told[f]++
		if f != api.OK {
			continue
		}
		if back, e := gram.Bytes(g); e != api.OK || !bytes.Equal(back, b) {
			t.Fatalf("Bytes(Read(%v)): %v, %d", b, back, e)
		}
	}
	for _, e := range []api.Errno{api.OK, api.ErrForm, api.ErrShort, api.ErrLong, api.ErrBig} {
		if told[e] < 100 {
			t.Errorf("%d was told %d times: too few to show anything", e, told[e])
		}
	}
}

// scratched are the bytes of a small grammar, in which a few may have been changed, put in, or cut. None goes on for ten bytes.
func scratched(r *rand.Rand) []byte {
	g := anyOne(r)
	g.Prods = g.Prods[:min(len(g.Prods), 3)]
	b := asBytes(g)
	for range r.Intn(3) {
		i := r.Intn(len(b))
		switch r.Intn(5) {
		case 0:
			b[i] = byte(r.Intn(64))
		case 1:
			b = slices.Insert(b, i, byte(r.Intn(64)))
		case 2:
			b = slices.Insert(b, i, 128, 0)
		case 3:
			b[i] |= 128
		default:
			b = b[:i+1]
		}
	}
	return b
}
