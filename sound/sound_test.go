package sound_test

import (
	"math"
	"slices"
	"strconv"
	"strings"
	"testing"

	"probate/api"
	"probate/gram"
	"probate/sound"
)

const last = api.MostNons - 1

// grammar is one of so many nonterminals, whose Start is 0, and of productions parted by ";": numbers are nonterminals, and letters, from a on, terminals.
func grammar(nons int, text string) api.Grammar {
	g := api.Grammar{Terms: api.MostTerms, Nons: nons}
	for _, line := range strings.Split(text, ";") {
		left, right, ok := strings.Cut(line, ":")
		if !ok {
			continue
		}
		p := api.Prod{Left: number(left)}
		for _, s := range strings.Fields(right) {
			if s[0] >= 'a' {
				p.Right = append(p.Right, api.Sym{N: int(s[0] - 'a')})
			} else {
				p.Right = append(p.Right, api.Sym{Non: true, N: number(s)})
			}
		}
		g.Prods = append(g.Prods, p)
	}
	return g
}

func number(text string) int {
	n, err := strconv.Atoi(strings.TrimSpace(text))
	if err != nil {
		panic(err)
	}
	return n
}

// says holds what is told of a grammar, twice the same, that the grammar stays as it was (R3, R4), and that it is the same, be its productions in the other order.
func says(t *testing.T, g api.Grammar, non int, e api.Errno) {
	t.Helper()
	before := gram.Clone(g)
	for range 2 {
		if gotNon, got := sound.Check(g); gotNon != non || got != e {
			t.Errorf("Check(%v): %d, %v, not %d, %v", g, gotNon, got, non, e)
			return
		}
		if !gram.Same(g, before) {
			t.Errorf("Check changed %v to %v", before, g)
			return
		}
	}
	slices.Reverse(before.Prods)
	if gotNon, got := sound.Check(before); gotNon != non || got != e {
		t.Errorf("Check(%v): %d, %v, not %d, %v", before, gotNon, got, non, e)
	}
}

// from is a grammar with another Start.
func from(start int, g api.Grammar) api.Grammar {
	g.Start = start
	return g
}

// P14.1: the chapter's example.
func TestExample(t *testing.T) {
	g := api.Grammar{Terms: 1, Nons: 1, Prods: []api.Prod{
		{Left: 0, Right: []api.Sym{{Non: true, N: 0}, {N: 0}}},
		{Left: 0, Right: []api.Sym{{N: 0}}},
	}}
	if non, e := sound.Check(g); non != 0 || e != api.ErrLeft {
		t.Errorf("Check: %d, %v", non, e)
	}
	if g.Terms = api.MostTerms; !gram.Same(g, grammar(1, "0: 0 a; 0: a")) {
		t.Error("a grammar isn't what its text says")
	}
	g.Prods = g.Prods[1:]
	if non, e := sound.Check(g); non != 0 || e != api.OK {
		t.Errorf("Check without what is wrong: %d, %v", non, e)
	}
}

// P14.1: sound grammars of one nonterminal alone.
func TestSoundAlone(t *testing.T) {
	says(t, grammar(1, "0: a"), 0, api.OK)
	says(t, grammar(1, "0:"), 0, api.OK)
	says(t, api.Grammar{Nons: 1, Prods: []api.Prod{{}}}, 0, api.OK)
	says(t, api.Grammar{Nons: 1, Prods: []api.Prod{{Right: []api.Sym{}}}}, 0, api.OK)
	says(t, grammar(1, "0: a; 0:"), 0, api.OK)
	says(t, grammar(1, "0: a b c d e f g h"), 0, api.OK)
	says(t, grammar(1, strings.Repeat("0: a;", api.MostProds)), 0, api.OK)
	says(t, api.Grammar{Nons: 1, Prods: make([]api.Prod, api.MostProds)}, 0, api.OK)
	for n := range api.MostTerms {
		says(t, api.Grammar{Terms: n + 1, Nons: 1, Prods: []api.Prod{{Right: []api.Sym{{N: n}}}}}, 0, api.OK)
	}
}

// P14.1: one that leads to itself behind a terminal is sound, be that the first symbol or one behind nullable ones.
func TestSoundBehindTerminal(t *testing.T) {
	says(t, grammar(1, "0: a 0; 0:"), 0, api.OK)
	says(t, grammar(1, "0: a 0; 0: a"), 0, api.OK)
	says(t, grammar(1, "0: a 0 b; 0:"), 0, api.OK)
	says(t, grammar(1, "0: a 0 0; 0:"), 0, api.OK)
	says(t, grammar(2, "0: 1 a 0; 0:; 1:"), 0, api.OK)
	says(t, grammar(2, "0: a 1; 1: 0; 1: b"), 0, api.OK)
	says(t, grammar(2, "0: 1; 1: a 0; 1:"), 0, api.OK)
	for place := range api.MostRight - 1 {
		ahead, behind := strings.Repeat("1 ", place), strings.Repeat(" 0", api.MostRight-1-place)
		text := "0:; 0: 1; 1:; 0: " + ahead + "a" + behind
		says(t, grammar(2, text), 0, api.OK)
		says(t, grammar(2, strings.Replace(text, "a", "1", 1)), 0, api.ErrLeft)
	}
}

// P14.1: one that leads to itself behind a nonterminal that is not nullable is sound, be that the first symbol or one behind nullable ones.
func TestSoundBehindNotNullable(t *testing.T) {
	says(t, grammar(2, "0: 1 0; 0: b; 1: a"), 0, api.OK)
	says(t, grammar(2, "0: 1 0; 0: b; 1: a; 1: a 1"), 0, api.OK)
	says(t, grammar(2, "0: 1 0; 0:; 1: a"), 0, api.OK)
	says(t, grammar(3, "0: 2 1 0; 0: b; 1: a; 2:"), 0, api.OK)
	says(t, grammar(3, "0: 1 a; 1: 2 0; 1:; 2: b"), 0, api.OK)
	says(t, grammar(3, "0: 1 0; 0:; 1: 2 2; 2: a"), 0, api.OK)
	for place := range api.MostRight - 1 {
		ahead, behind := strings.Repeat("1 ", place), strings.Repeat(" 0", api.MostRight-1-place)
		text := "0:; 0: 1; 1:; 2: a; 0: " + ahead + "2" + behind
		says(t, grammar(3, text), 0, api.OK)
		says(t, grammar(3, text+"; 2:"), 0, api.ErrLeft)
	}
}

// P14.1: one that leads to itself at the right is sound.
func TestSoundAtRight(t *testing.T) {
	says(t, grammar(1, "0: a 0; 0: b"), 0, api.OK)
	says(t, grammar(1, "0: a b c d e f g 0; 0: b"), 0, api.OK)
	says(t, grammar(2, "0: a 1; 1: b 0; 1: c"), 0, api.OK)
	says(t, grammar(2, "0: a 1 0; 0:; 1:"), 0, api.OK)
	says(t, grammar(2, "0: 1 0; 0: 1; 1: a"), 0, api.OK)
	says(t, grammar(3, "0: 1 2; 1: a; 2: 1 0; 2:"), 0, api.OK)
}

// P14.1: grammars of which nothing alone comes: no terminal stands in them.
func TestSoundNothingAlone(t *testing.T) {
	says(t, grammar(1, "0:; 0:"), 0, api.OK)
	says(t, grammar(2, "0: 1; 1:"), 0, api.OK)
	says(t, grammar(3, "0: 1 2 1; 1: 2; 2:"), 0, api.OK)
	says(t, grammar(3, "0: 2 2 2 2 2 2 2 1; 1: 2 2; 1:; 2:"), 0, api.OK)
	says(t, api.Grammar{Nons: 2, Start: 1, Prods: []api.Prod{{}, {Left: 1, Right: []api.Sym{{Non: true}, {Non: true}}}}}, 0, api.OK)
}

// P14.1: a Start that isn't 0, and each one of a ring of nonterminals.
func TestSoundStart(t *testing.T) {
	says(t, from(1, grammar(2, "1: 0; 0: a")), 0, api.OK)
	says(t, from(1, grammar(2, "0: a 1; 1: 0 b; 0:")), 0, api.OK)
	says(t, from(2, grammar(3, "2: a 0; 0: 1; 1:")), 0, api.OK)
	for start := range api.MostNons {
		says(t, from(start, ring("a ", "b")), 0, api.OK)
		says(t, from(start, ring("a ", "")), 0, api.OK)
	}
}

// ring is one of as many nonterminals as there may be: each leads to the next one behind what stands ahead, and something else comes of it.
func ring(ahead, other string) api.Grammar {
	text := ""
	for i := range api.MostNons {
		of := strconv.Itoa(i) + ": "
		text += of + ahead + strconv.Itoa((i+1)%api.MostNons) + ";" + of + other + ";"
	}
	return grammar(api.MostNons, text)
}

// P14.1: as many nonterminals, productions and symbols as there may be; and one nonterminal, at the end of all, that changes it.
func TestSoundMost(t *testing.T) {
	long := ""
	for i := range last {
		long += strconv.Itoa(i) + ":" + strings.Repeat(" "+strconv.Itoa(i+1), api.MostRight) + ";"
	}
	says(t, grammar(api.MostNons, long), 0, api.ErrDead)
	says(t, grammar(api.MostNons, long+"23: a"), 0, api.OK)
	says(t, grammar(api.MostNons, long+"23:"), 0, api.OK)
	long += strings.Repeat("23: a b c d e f g h;", api.MostProds-last)
	g := grammar(api.MostNons, long)
	if len(g.Prods) != api.MostProds {
		t.Fatalf("%d productions", len(g.Prods))
	}
	says(t, g, 0, api.OK)
	g.Prods[api.MostProds-1].Right[0] = api.Sym{Non: true, N: last}
	says(t, g, last, api.ErrLeft)
	g.Prods[api.MostProds-1].Right[0] = api.Sym{Non: true, N: 0}
	says(t, g, 0, api.ErrLeft)
	g.Prods[api.MostProds-1].Right[0] = api.Sym{N: api.MostTerms - 1}
	says(t, g, 0, api.OK)
	for i := range last { // nothing leads on from i any more
		g := grammar(api.MostNons, long)
		g.Prods[i].Right = []api.Sym{{N: i % api.MostTerms}}
		says(t, g, i+1, api.ErrAlone)
	}
}

// mayNot are grammars that may not be, by what is wrong with each: beside that some have faults of all other kinds (with), some none (of).
func mayNot() map[string]api.Grammar {
	with := func(change func(g *api.Grammar)) api.Grammar {
		g := grammar(3, "0: a; 0: 0 b; 1: 1 c")
		g.Terms = 3
		change(&g)
		return g
	}
	of := func(change func(g *api.Grammar)) api.Grammar {
		g := grammar(2, "0: a 1 0; 0: b; 1: c")
		g.Terms = 3
		change(&g)
		return g
	}
	return map[string]api.Grammar{
		"the empty grammar":          {},
		"Terms below 0":              with(func(g *api.Grammar) { g.Terms = -1 }),
		"Terms below 0, alone":       {Terms: -1, Nons: 1, Prods: []api.Prod{{}}},
		"Terms far below 0, alone":   {Terms: math.MinInt, Nons: 1, Prods: []api.Prod{{}}},
		"Terms one more":             with(func(g *api.Grammar) { g.Terms = api.MostTerms + 1 }),
		"Terms one more, alone":      of(func(g *api.Grammar) { g.Terms = api.MostTerms + 1 }),
		"Terms far more":             of(func(g *api.Grammar) { g.Terms = math.MaxInt }),
		"Nons below 0":               with(func(g *api.Grammar) { g.Nons = -1 }),
		"Nons far below 0":           with(func(g *api.Grammar) { g.Nons = math.MinInt }),
		"Nons 0":                     with(func(g *api.Grammar) { g.Nons = 0 }),
		"Nons 0, no productions":     {Terms: 1},
		"Nons one more":              with(func(g *api.Grammar) { g.Nons = api.MostNons + 1 }),
		"Nons far more":              with(func(g *api.Grammar) { g.Nons = math.MaxInt }),
		"Start below 0":              with(func(g *api.Grammar) { g.Start = -1 }),
		"Start below 0, alone":       of(func(g *api.Grammar) { g.Start = -1 }),
		"Start far below 0":          of(func(g *api.Grammar) { g.Start = math.MinInt }),
		"Start one more":             with(func(g *api.Grammar) { g.Start = 3 }),
		"Start one more, alone":      of(func(g *api.Grammar) { g.Start = 2 }),
		"Start far more":             of(func(g *api.Grammar) { g.Start = math.MaxInt }),
		"productions one more":       with(func(g *api.Grammar) { g.Prods = slices.Repeat(g.Prods, 21)[:api.MostProds+1] }),
		"empty productions one more": {Nons: 1, Prods: make([]api.Prod, api.MostProds+1)},
		"Left below 0":               with(func(g *api.Grammar) { g.Prods[0].Left = -1 }),
		"Left below 0, alone":        of(func(g *api.Grammar) { g.Prods = append(g.Prods, api.Prod{Left: -1}) }),
		"Left one more":              with(func(g *api.Grammar) { g.Prods[2].Left = 3 }),
		"Left one more, alone":       of(func(g *api.Grammar) { g.Prods = append(g.Prods, api.Prod{Left: 2}) }),
		"symbols one more":           with(func(g *api.Grammar) { g.Prods[1].Right = make([]api.Sym, api.MostRight+1) }),
		"symbols one more, alone":    of(func(g *api.Grammar) { g.Prods[1].Right = make([]api.Sym, api.MostRight+1) }),
		"a terminal below 0":         with(func(g *api.Grammar) { g.Prods[1].Right[1].N = -1 }),
		"a terminal below 0, alone":  of(func(g *api.Grammar) { g.Prods[1].Right[0].N = -1 }),
		"a terminal one more":        with(func(g *api.Grammar) { g.Prods[2].Right[1].N = 3 }),
		"a terminal one more, alone": of(func(g *api.Grammar) { g.Prods[2].Right[0].N = 3 }),
		"a terminal of none":         of(func(g *api.Grammar) { g.Terms = 0 }),
		"a nonterminal below 0":      with(func(g *api.Grammar) { g.Prods[1].Right[0].N = -1 }),
		"a nonterminal one more":     with(func(g *api.Grammar) { g.Prods[2].Right[0].N = 3 }),
		"a nonterminal far below 0":  of(func(g *api.Grammar) { g.Prods[0].Right[2].N = math.MinInt }),
		"a nonterminal far more":     of(func(g *api.Grammar) { g.Prods[0].Right[1].N = math.MaxInt }),
	}
}

// P14.1: 0 and ErrArg for a grammar that may not be, with faults of the other kinds and without (R1).
func TestMayNotBe(t *testing.T) {
	for what, g := range mayNot() {
		if gram.Right(g) {
			t.Errorf("%s may be", what)
		}
		says(t, g, 0, api.ErrArg)
	}
	says(t, grammar(3, "0: a; 0: 0 b; 1: 1 c"), 1, api.ErrDead)
	says(t, grammar(2, "0: a 1 0; 0: b; 1: c"), 0, api.OK)
}

// R3, R4, R5: a change of the grammar changes nothing of what is told of another one, and what is told of it is told of what it is now.
func TestNothingIsKept(t *testing.T) {
	g := grammar(2, "0: a 1; 1: b 0; 1:")
	says(t, g, 0, api.OK)
	other := gram.Clone(g)
	g.Prods[1].Right[0] = api.Sym{Non: true, N: 1}
	says(t, g, 1, api.ErrLeft)
	g.Prods[0].Right = g.Prods[0].Right[:1]
	says(t, g, 1, api.ErrAlone)
	g.Prods = g.Prods[1:]
	says(t, g, 0, api.ErrDead)
	g.Nons = 1
	says(t, g, 0, api.ErrArg)
	says(t, other, 0, api.OK)
}
