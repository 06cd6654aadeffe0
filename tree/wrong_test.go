package tree_test

import (
	"math"
	"slices"
	"testing"

	"probate/api"
	"probate/gram"
)

// mayNot are grammars that may not be, by what is wrong with each. But for that, productions 0, 1, 1 and 0, 2, 1, 3 are derivations of most.
func mayNot() map[string]api.Grammar {
	but := func(change func(g *api.Grammar)) api.Grammar {
		g := grammar(2, "0: a 1 1; 1: b; 1: c 1; 1:")
		g.Terms = 3
		change(&g)
		return g
	}
	return map[string]api.Grammar{
		"the empty grammar":               {},
		"Terms below 0":                   but(func(g *api.Grammar) { g.Terms = -1 }),
		"Terms below 0, alone":            {Terms: -1, Nons: 1, Prods: []api.Prod{{}}},
		"Terms far below 0":               {Terms: math.MinInt, Nons: 1, Prods: []api.Prod{{}}},
		"Terms one more":                  but(func(g *api.Grammar) { g.Terms = api.MostTerms + 1 }),
		"Terms far more":                  but(func(g *api.Grammar) { g.Terms = math.MaxInt }),
		"Nons below 0":                    but(func(g *api.Grammar) { g.Nons = -1 }),
		"Nons far below 0":                but(func(g *api.Grammar) { g.Nons = math.MinInt }),
		"Nons 0":                          but(func(g *api.Grammar) { g.Nons = 0 }),
		"Nons 0, no productions":          {Terms: 1},
		"Nons one more":                   but(func(g *api.Grammar) { g.Nons = api.MostNons + 1 }),
		"Nons far more":                   but(func(g *api.Grammar) { g.Nons = math.MaxInt }),
		"Start below 0":                   but(func(g *api.Grammar) { g.Start = -1 }),
		"Start far below 0":               but(func(g *api.Grammar) { g.Start = math.MinInt }),
		"Start one more":                  but(func(g *api.Grammar) { g.Start = 2 }),
		"Start far more":                  but(func(g *api.Grammar) { g.Start = math.MaxInt }),
		"productions one more":            but(func(g *api.Grammar) { g.Prods = slices.Repeat(g.Prods, 16)[:api.MostProds+1] }),
		"empty productions one more":      {Nons: 1, Prods: make([]api.Prod, api.MostProds+1)},
		"Left below 0":                    but(func(g *api.Grammar) { g.Prods[0].Left = -1 }),
		"Left below 0, of one not used":   but(func(g *api.Grammar) { g.Prods[3].Left = -1 }),
		"Left one more":                   but(func(g *api.Grammar) { g.Prods[2].Left = 2 }),
		"Left one more, of one not used":  but(func(g *api.Grammar) { g.Prods[3].Left = 2 }),
		"Left far more":                   but(func(g *api.Grammar) { g.Prods[1].Left = math.MaxInt }),
		"Start and Left below 0":          {Nons: 1, Start: -1, Prods: []api.Prod{{Left: -1}}},
		"Start and Left one more":         {Nons: 1, Start: 1, Prods: []api.Prod{{Left: 1}}},
		"Start, Left and a symbol beyond": {Nons: 1, Start: 9, Prods: []api.Prod{{Left: 9, Right: []api.Sym{{Non: true, N: 9}}}, {Left: 9}}},
		"symbols one more":                but(func(g *api.Grammar) { g.Prods[1].Right = make([]api.Sym, api.MostRight+1) }),
		"symbols one more, not used":      but(func(g *api.Grammar) { g.Prods[3].Right = make([]api.Sym, api.MostRight+1) }),
		"a terminal below 0":              but(func(g *api.Grammar) { g.Prods[1].Right[0].N = -1 }),
		"a terminal far below 0":          but(func(g *api.Grammar) { g.Prods[2].Right[0].N = math.MinInt }),
		"a terminal one more":             but(func(g *api.Grammar) { g.Prods[1].Right[0].N = 3 }),
		"a terminal one more, not used":   but(func(g *api.Grammar) { g.Prods[3].Right = []api.Sym{{N: 3}} }),
		"a terminal far more":             but(func(g *api.Grammar) { g.Prods[0].Right[0].N = math.MaxInt }),
		"a terminal of none":              but(func(g *api.Grammar) { g.Terms = 0 }),
		"a nonterminal below 0":           but(func(g *api.Grammar) { g.Prods[0].Right[1].N = -1 }),
		"a nonterminal one more":          but(func(g *api.Grammar) { g.Prods[2].Right[1].N = 2 }),
		"a nonterminal far below 0":       but(func(g *api.Grammar) { g.Prods[0].Right[2].N = math.MinInt }),
		"a nonterminal far more":          but(func(g *api.Grammar) { g.Prods[0].Right[1].N = math.MaxInt }),
		"all of it":                       {Terms: -1, Nons: -1, Start: -1, Prods: []api.Prod{{Left: -1, Right: []api.Sym{{N: -1}, {Non: true, N: -1}}}}},
	}
}

// P15.1, R2: ErrArg ahead of all others for a grammar that may not be, whatever the productions are.
func TestMayNotBe(t *testing.T) {
	lists := [][]int{
		nil, {}, {0}, {0, 1, 1}, {0, 2, 1, 3}, {1}, {-1}, {4}, {99}, {math.MinInt}, {math.MaxInt}, {0, 1}, {0, 1, 1, 1},
		times(api.MostSteps, 0), times(api.MostSteps+1, 0), times(api.MostSteps+1, -1), append(times(api.MostSteps, 0), 1), times(50000, 99),
	}
	for what, g := range mayNot() {
		if gram.Right(g) {
			t.Errorf("%s may be", what)
		}
		for _, l := range lists {
			fails(t, g, l, api.ErrArg)
		}
	}
	tells(t, grammar(2, "0: a 1 1; 1: b; 1: c 1; 1:"), numbers("0 2 1 3"), "acb")
}

// P15.1, R2: ErrBig ahead of ErrForm and ErrShort for more than MostSteps productions, be they a derivation but for that or not.
func TestTooMany(t *testing.T) {
	g := grammar(2, "0: a 0; 0: b; 0: 0; 1:")
	for _, more := range []int{1, 2, 48, 98000} {
		all := api.MostSteps + more
		fails(t, g, append(times(all-1, 0), 1), api.ErrBig) // else a derivation
		fails(t, g, append(times(all-1, 2), 1), api.ErrBig)
		fails(t, g, times(all, 0), api.ErrBig) // else nonterminals would be left
		fails(t, g, times(all, 1), api.ErrBig) // else none would be left too soon
		fails(t, g, times(all, 3), api.ErrBig) // else it would not be the leftmost one's
		for _, none := range []int{-1, 4, math.MinInt, math.MaxInt} {
			fails(t, g, append([]int{none}, times(all-1, 0)...), api.ErrBig)
			fails(t, g, times(all, none), api.ErrBig)
			fails(t, g, append(times(all-1, 0), none), api.ErrBig)
		}
	}
	none := api.Grammar{Nons: 1} // no production at all
	fails(t, none, times(api.MostSteps+1, 0), api.ErrBig)
	fails(t, none, times(api.MostSteps, 0), api.ErrForm)
	fails(t, g, times(api.MostSteps, 0), api.ErrShort)
	fails(t, g, times(api.MostSteps, 1), api.ErrForm)
	fails(t, g, append(times(api.MostSteps-1, 0), -1), api.ErrForm)
	tells(t, g, append(times(api.MostSteps-1, 2), 1), "b")
}

// P15.1: ErrForm of a number that is no production's, as the first, in the middle, and as the last one, and behind all.
func TestNoProduction(t *testing.T) {
	g := grammar(2, "0: a 1 1 0; 0: b; 1: c; 1: 1 d")
	right := numbers("0 3 2 2 0 2 3 2 1")
	tells(t, g, right, "acdcaccdb")
	for _, none := range []int{-1, -2, 4, 5, 60, 61, math.MinInt, math.MinInt32, math.MaxInt32, math.MaxInt, 1 << 32, 1 << 33, -1 << 32, -1 << 63} {
		fails(t, g, []int{none}, api.ErrForm)
		for at := range right {
			l := slices.Clone(right)
			l[at] = none
			fails(t, g, l, api.ErrForm)
			fails(t, g, l[:at+1], api.ErrForm) // and nonterminals would be left in the end
			fails(t, g, slices.Insert(slices.Clone(right), at, none), api.ErrForm)
		}
		fails(t, g, append(slices.Clone(right), none), api.ErrForm)
		fails(t, api.Grammar{Nons: 1}, []int{none}, api.ErrForm)
	}
	fails(t, api.Grammar{Nons: 1}, []int{0}, api.ErrForm)
	most := api.Grammar{Nons: 1, Prods: make([]api.Prod, api.MostProds)}
	tells(t, most, []int{api.MostProds - 1}, "")
	fails(t, most, []int{api.MostProds}, api.ErrForm)
	for many := 1; many < api.MostProds; many++ {
		most.Prods = most.Prods[:many]
		tells(t, most, []int{many - 1}, "")
		fails(t, most, []int{many}, api.ErrForm) // there is room for one behind it, but it is none of the grammar's
	}
}

// P15.1: ErrForm of a production of another nonterminal than the leftmost one.
func TestNotLeftmost(t *testing.T) {
	g := grammar(4, "0: a 1 2; 0: 2 1; 1: b; 2: c; 3: d; 2: e 1")
	tells(t, g, numbers("0 2 3"), "abc")
	tells(t, g, numbers("1 3 2"), "cb")
	tells(t, g, numbers("1 5 2 2"), "ebb")
	for _, text := range []string{
		"0 3 2", "0 3", "1 2 3", "1 2", "0 5 2 2", // one that stands further right, be nonterminals left in the end or not
		"0 2 2", "0 0 2 3", "1 3 3", // one whose place is taken already
		"0 4 2 3", "0 4", "0 2 4", // one that is not there
		"2", "3", "4", "2 0", "4 0 2 3", // another one in Start's place
	} {
		fails(t, g, numbers(text), api.ErrForm)
	}
	fails(t, from(3, g), numbers("0 2 3"), api.ErrForm)
	tells(t, from(3, g), numbers("4"), "d")
	tells(t, from(2, g), numbers("5 2"), "eb")
	fails(t, grammar(2, "0: 1 0; 1:; 0:"), numbers("0 2 1"), api.ErrForm) // all of them come to nothing, but not in that order
	tells(t, grammar(2, "0: 1 0; 1:; 0:"), numbers("0 1 2"), "")
	fails(t, grammar(2, "0: a; 1: b"), numbers("1"), api.ErrForm) // be there a terminal of its number
	fails(t, grammar(2, "0: b 1; 1: c; 1: 0"), numbers("0 0"), api.ErrForm)
}

// P15.1: ErrForm of a production of any but the leftmost one of as many as there may be in a production.
func TestNotLeftmostOfMost(t *testing.T) {
	g := grammar(api.MostRight+1, "0: 1 2 3 4 5 6 7 8; 1: a; 2: b; 3: c; 4: d; 5: e; 6: f; 7: g; 8: h; 0:")
	right := numbers("0 1 2 3 4 5 6 7 8")
	tells(t, g, right, "abcdefgh")
	for at := range right {
		for other := range g.Prods {
			if g.Prods[other].Left != g.Prods[at].Left {
				fails(t, g, append(slices.Clone(right[:at]), other), api.ErrForm)
			}
		}
	}
}

// P15.1: ErrForm of one more production where no nonterminal is left, whichever it is.
func TestOneMore(t *testing.T) {
	for _, text := range []string{"0: a; 0: 1; 1:; 1: 0", "0:; 0: 1; 1: b a; 1: 0"} {
		g := grammar(2, text)
		first, second := string(lettersOf(g.Prods[0])), string(lettersOf(g.Prods[2]))
		for list, word := range map[string]string{"0": first, "1 2": second, "1 3 0": first, "1 3 1 2": second} {
			l := numbers(list)
			tells(t, g, l, word)
			for more := -1; more <= len(g.Prods); more++ {
				fails(t, g, slices.Concat(l, []int{more}), api.ErrForm)
				fails(t, g, slices.Concat(l, []int{more, 0}), api.ErrForm)
				fails(t, g, slices.Concat(l, []int{more}, l), api.ErrForm)
			}
			fails(t, g, slices.Concat(l, l), api.ErrForm)
		}
	}
}

// lettersOf is a production of terminals alone, as letters.
func lettersOf(p api.Prod) []byte {
	var text []byte
	for _, s := range p.Right {
		text = append(text, byte('a'+s.N))
	}
	return text
}

// P15.1, R6: ErrShort of no productions, and where one nonterminal is left, and several.
func TestLeft(t *testing.T) {
	for _, g := range []api.Grammar{grammar(1, "0:"), grammar(1, ""), grammar(3, "0: a 1 2; 1:; 2:"), {Nons: 1}, {Nons: api.MostNons, Start: last}} {
		fails(t, g, nil, api.ErrShort)
		fails(t, g, []int{}, api.ErrShort)
		fails(t, g, make([]int, 0, 9), api.ErrShort)
	}
	g := grammar(3, "0: a 1 b 2; 1: c; 1: 1 2 1; 2: d; 0: 1; 0: 0 a")
	fails(t, g, numbers("0"), api.ErrShort)
	fails(t, g, numbers("0 1"), api.ErrShort)
	fails(t, g, numbers("0 2"), api.ErrShort)
	fails(t, g, numbers("0 2 1 3 1"), api.ErrShort)
	tells(t, g, numbers("0 2 1 3 1 3"), "acdcbd")
	fails(t, g, numbers("4"), api.ErrShort)
	fails(t, g, numbers("5"), api.ErrShort)
	fails(t, g, numbers("5 5 5"), api.ErrShort)
	fails(t, g, numbers("5 5 5 4"), api.ErrShort)
	tells(t, g, numbers("5 5 5 4 1"), "caaa")
	g = grammar(1, "0: 0 0 0 0 0 0 0 0; 0:")
	for many := range 20 {
		fails(t, g, times(many, 0), api.ErrShort)
		for less := range 7*many + 1 {
			fails(t, g, append(times(many, 0), times(less, 1)...), api.ErrShort)
		}
		tells(t, g, append(times(many, 0), times(7*many+1, 1)...), "")
		fails(t, g, append(times(many, 0), times(7*many+2, 1)...), api.ErrForm)
	}
}
