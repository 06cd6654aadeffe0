package left_test

import (
	"math"
	"slices"
	"strings"
	"testing"

	"probate/api"
	"probate/gram"
	"probate/left"
)

// asks holds from which nonterminals to which steps are a way, also from and to those that are none; twice the same, and that arguments stay as they were (R3, R4).
func asks(t *testing.T, g api.Grammar, l []left.Step, is func(from, to int) bool) {
	t.Helper()
	before, were := gram.Clone(g), slices.Clone(l)
	most := max(2, min(g.Nons, api.MostNons))
	for from := -1; from <= most; from++ {
		for to := -1; to <= most; to++ {
			for range 2 {
				if got := left.Leads(g, from, to, l); got != is(from, to) {
					t.Errorf("Leads(%v, %d, %d, %v): %v", g, from, to, l, got)
					return
				}
			}
		}
	}
	if !gram.Same(g, before) || !slices.Equal(l, were) {
		t.Errorf("Leads changed %v, %v to %v, %v", before, were, g, l)
	}
}

// leads holds that steps are a way from the one to the other nonterminal, and neither from nor to another one.
func leads(t *testing.T, g api.Grammar, from, to int, l []left.Step) {
	t.Helper()
	asks(t, g, l, func(a, b int) bool { return a == from && b == to })
}

// never holds that steps are no way, whatever from and to are.
func never(t *testing.T, g api.Grammar, l []left.Step) {
	t.Helper()
	asks(t, g, l, func(int, int) bool { return false })
}

// some is a grammar with steps of each sort, right and wrong.
func some() api.Grammar {
	return grammar(5, "0: 1 2 3 0; 1: 0 b; 1:; 2: 4 0 a 2; 2:; 4:; 3: 3 4; 3: 1 4 3 2; 3: b 3; 1: c c 1")
}

// rights are the right ones of them, with what each leads from, and to.
func rights() map[string][2]int {
	return map[string][2]int{
		"0.0": {0, 1}, "0.1": {0, 2}, "0.2": {0, 3}, "1.0": {1, 0}, "3.0": {2, 4}, "3.1": {2, 0},
		"6.0": {3, 3}, "7.0": {3, 1}, "7.1": {3, 4}, "7.2": {3, 3},
	}
}

// P13.2: no steps, be they none or an empty list (R6), are no way, not even from a nonterminal to itself.
func TestNoSteps(t *testing.T) {
	for _, g := range []api.Grammar{some(), grammar(1, ""), grammar(1, "0:"), grammar(1, "0: 0"), ring(func(i int) int { return i })} {
		never(t, g, nil)
		never(t, g, []left.Step{})
		never(t, g, steps("0.0")[:0])
	}
}

// P13.2: one step leads from its production's nonterminal to that at its place, where both are the same, and where they aren't.
func TestLeadsByOne(t *testing.T) {
	for step, at := range rights() {
		leads(t, some(), at[0], at[1], steps(step))
	}
	leads(t, grammar(1, "0: 0"), 0, 0, steps("0.0"))
	leads(t, grammar(2, "1: 0"), 1, 0, steps("0.0"))
	leads(t, grammar(2, "0: a; 1: 1 0"), 1, 1, steps("1.0"))
	leads(t, grammar(api.MostNons, "23: 23; 0: 23"), 23, 23, steps("0.0"))
	leads(t, grammar(api.MostNons, "23: 23; 0: 23"), 0, 23, steps("1.0"))
	leads(t, grammar(2, strings.Repeat("0: a;", api.MostProds-1)+"1: 0"), 1, 0, steps("59.0"))
	for place := range api.MostRight {
		ahead, behind := strings.Repeat("1 ", place), strings.Repeat(" 1", api.MostRight-1-place)
		l := []left.Step{{Prod: 1, Dot: place}}
		leads(t, grammar(2, "1:; 0: "+ahead+"0"+behind), 0, 0, l)
		leads(t, grammar(3, "1:; 0: "+ahead+"2"+behind), 0, 2, l)
		leads(t, grammar(3, "1:; 2: "+ahead+"1"+behind), 2, 1, l)
	}
}

// P13.2: one that is behind itself is led to just if it is nullable.
func TestLeadsBehindItself(t *testing.T) {
	for _, end := range []string{"", "; 0: a", "; 0: 0", "; 0: 1"} {
		leads(t, grammar(2, "0: 0 0"+end), 0, 0, steps("0.0"))
		never(t, grammar(2, "0: 0 0"+end), steps("0.1"))
	}
	for _, end := range []string{"; 0:", "; 0: 1; 1:", "; 0: a; 0: 1 1; 1:"} {
		leads(t, grammar(2, "0: 0 0"+end), 0, 0, steps("0.0"))
		leads(t, grammar(2, "0: 0 0"+end), 0, 0, steps("0.1"))
		leads(t, grammar(2, "0: 0 0"+end), 0, 0, steps("0.1 0.0 0.1"))
	}
}

// P13.2: several steps, from one to itself and to another one.
func TestLeadsBySeveral(t *testing.T) {
	leads(t, some(), 0, 0, steps("0.0 1.0"))
	leads(t, some(), 1, 1, steps("1.0 0.0"))
	leads(t, some(), 0, 0, steps("0.1 3.1"))
	leads(t, some(), 0, 4, steps("0.1 3.0"))
	leads(t, some(), 1, 3, steps("1.0 0.2 6.0 7.2"))
	leads(t, some(), 3, 4, steps("7.0 1.0 0.1 3.0"))
	leads(t, some(), 3, 4, steps("6.0 7.2 7.1"))
	leads(t, some(), 2, 2, steps("3.1 0.0 1.0 0.1"))
	leads(t, some(), 3, 2, steps("7.2 7.0 1.0 0.1 3.1 0.0 1.0 0.1"))
	leads(t, grammar(3, "0: 1 2; 1:; 1: 2 0; 2: 0; 2:"), 0, 0, steps("0.1 3.0"))
	leads(t, grammar(3, "0: 1 2; 1:; 1: 2 0; 2: 0; 2:"), 0, 2, steps("0.0 2.1 0.1"))
	for from := range api.MostNons {
		for many := 1; many <= 2*api.MostNons; many++ {
			var l []left.Step
			for i := range many {
				l = append(l, left.Step{Prod: (from + i) % api.MostNons})
			}
			for _, of := range orders() {
				if g, to := ring(of), of((from+many)%api.MostNons); !left.Leads(g, of(from), to, l) || left.Leads(g, of(from), of((from+many+1)%api.MostNons), l) {
					t.Errorf("from %d on, %v", of(from), l)
				}
			}
		}
	}
}

// P13.2: a step that does not start at the nonterminal to which the one ahead leads, also where all lead to the right one, or the last ones to it, or all but one.
func TestNotFromThere(t *testing.T) {
	for a, x := range rights() {
		for b, y := range rights() {
			l := steps(a + " " + b)
			if x[1] == y[0] {
				leads(t, some(), x[0], y[1], l)
			} else {
				never(t, some(), l)
			}
			for c, z := range rights() {
				if l := append(slices.Clip(l), steps(c)...); x[1] == y[0] && y[1] == z[0] {
					leads(t, some(), x[0], z[1], l)
				} else {
					never(t, some(), l)
				}
			}
		}
	}
	never(t, grammar(3, "0: 1; 1: 2; 2: 0"), steps("0.0 2.0"))
	never(t, grammar(3, "0: 1; 1: 2; 2: 0"), steps("0.0 1.0 1.0 2.0"))
	never(t, grammar(3, "0: 1; 1: 2; 2: 0"), steps("2.0 1.0 0.0"))
	never(t, grammar(2, "0: 1; 0: 1; 1: 0"), steps("0.0 1.0"))
}

// P13.2: a first step that is not of from, and a last one that doesn't lead to to; from and to that are no nonterminals.
func TestFromAndTo(t *testing.T) {
	g := some()
	far := []int{-1, -2, math.MinInt, math.MinInt32, 5, 6, 23, 24, 32, 64, 1 << 32, math.MaxInt32, math.MaxInt}
	for from := range g.Nons {
		for to := range g.Nons {
			for text, at := range map[string][2]int{"0.0": {0, 1}, "6.0": {3, 3}, "0.0 1.0": {0, 0}, "0.1 3.0": {0, 4}, "3.1 0.2 7.0": {2, 1}} {
				if got := left.Leads(g, from, to, steps(text)); got != (at == [2]int{from, to}) {
					t.Errorf("Leads(%d, %d, %s): %v", from, to, text, got)
				}
			}
		}
		for _, n := range far {
			for _, text := range []string{"", "0.0", "6.0", "1.0", "3.0", "0.0 1.0", "0.1 3.0", "1.0 0.0", "-1.0", "10.0"} {
				if left.Leads(g, from, n, steps(text)) || left.Leads(g, n, from, steps(text)) || left.Leads(g, n, n, steps(text)) {
					t.Errorf("Leads(%d, %d, %s)", from, n, text)
				}
			}
		}
	}
}

// chains are all ways of some's right steps up to so many, and none.
func chains(most int) [][]left.Step {
	l, ends := [][]left.Step{nil}, []int{-1}
	for i := 0; i < len(l); i++ {
		for step, at := range rights() {
			if len(l[i]) < most && (i == 0 || ends[i] == at[0]) {
				l = append(l, append(slices.Clip(l[i]), steps(step)...))
				ends = append(ends, at[1])
			}
		}
	}
	return l
}

// refuses holds that a step is none: alone, and put into ways, as the first one, in the middle, and as the last one, and put in the place of one.
func refuses(t *testing.T, s left.Step) {
	t.Helper()
	for _, way := range chains(2) {
		for i := range len(way) + 1 {
			never(t, some(), slices.Insert(slices.Clone(way), i, s))
			if i < len(way) {
				never(t, some(), slices.Replace(slices.Clone(way), i, i+1, s))
			}
		}
	}
}

// P13.2: a production below 0, and one too great.
func TestNoProduction(t *testing.T) {
	for _, prod := range []int{-1, -3, -10, math.MinInt, 10, 11, 59, 60, 64, 256, 1 << 32, math.MaxInt} {
		for _, dot := range []int{0, 1, -1} {
			refuses(t, left.Step{Prod: prod, Dot: dot})
		}
	}
	never(t, grammar(1, ""), steps("0.0"))
	never(t, grammar(1, "0: 0"), steps("1.0"))
	never(t, grammar(1, "0: 0"), steps("0.0 1.0"))
	never(t, grammar(1, "0: 0"), steps("0.0 -1.0 0.0"))
	never(t, grammar(2, strings.Repeat("0: 1;", api.MostProds)), steps("60.0"))
}

// P13.2: a place below 0, behind the last symbol, and in a production of no symbols.
func TestNoPlace(t *testing.T) {
	for prod, p := range some().Prods {
		for _, dot := range []int{-1, -2, math.MinInt, len(p.Right), len(p.Right) + 1, api.MostRight, api.MostRight + 1, 256, 1 << 32, math.MaxInt} {
			refuses(t, left.Step{Prod: prod, Dot: dot})
		}
	}
	for dot := -9; dot <= 9; dot++ {
		never(t, grammar(1, "0:"), []left.Step{{Dot: dot}})
		never(t, grammar(2, "0: 1; 1:"), []left.Step{{}, {Prod: 1, Dot: dot}})
		if dot != 0 {
			never(t, grammar(1, "0: 0"), []left.Step{{Dot: dot}})
			never(t, grammar(2, "0: 1; 0: 0; 1:"), []left.Step{{Dot: dot}})
		}
	}
}

// P13.2: a place at which a terminal stands, at the front, behind nullable ones, and behind others, though there is a nonterminal of its number.
func TestAtTerminal(t *testing.T) {
	for _, s := range steps("1.1 3.2 8.0 9.0 9.1") {
		refuses(t, s)
	}
	for n := range api.MostTerms {
		g := grammar(api.MostNons, "16: 17; 17:")
		for i := range api.MostTerms {
			g.Prods = append(g.Prods, api.Prod{Left: i})
		}
		g.Prods = append(g.Prods, api.Prod{Left: n, Right: []api.Sym{{N: n}, non(17), {N: n}}}, api.Prod{Left: 16, Right: []api.Sym{non(17), {N: n}}})
		never(t, g, steps("18.0"))
		never(t, g, steps("18.2"))
		never(t, g, steps("19.1"))
		leads(t, g, 16, 17, steps("19.0"))
	}
}

// P13.2: a place behind a terminal, and behind a nonterminal that is not nullable, be there nullable ones ahead of it, or between.
func TestBehindWhatStays(t *testing.T) {
	for _, s := range steps("0.3 3.3 6.1 7.3 8.1 9.2") {
		refuses(t, s)
	}
	for place := 1; place < api.MostRight; place++ {
		for stays := range place {
			ahead := slices.Repeat([]string{"1"}, api.MostRight)
			ahead[place] = "0"
			for _, what := range []string{"a", "b", "c", "2", "3", "0"} {
				ahead[stays] = what // a terminal, one that ends so, one without a production, and the nonterminal itself
				g := grammar(4, "0: "+strings.Join(ahead, " ")+"; 1:; 2: b")
				never(t, g, []left.Step{{Dot: place}})
				for dot := range stays {
					leads(t, g, 0, 1, []left.Step{{Dot: dot}})
				}
			}
			ahead[stays] = "2"
			leads(t, grammar(3, "0: "+strings.Join(ahead, " ")+"; 1:; 2: 1; 2: b"), 0, 0, []left.Step{{Dot: place}})
		}
	}
}

// P13.2: ways with the same step more than once, and of more steps than there are nonterminals, productions, or steps of a derivation: they are ways all the same; and one wrong step of many is told.
func TestLongWays(t *testing.T) {
	leads(t, some(), 3, 3, steps("6.0 6.0"))
	leads(t, some(), 3, 3, steps("6.0 7.2 6.0"))
	leads(t, some(), 0, 0, steps("0.0 1.0 0.0 1.0 0.0 1.0"))
	leads(t, some(), 0, 1, steps("0.0 1.0 0.0 1.0 0.0"))
	leads(t, some(), 1, 0, steps("1.0 0.1 3.1 0.1 3.1"))
	leads(t, grammar(1, "0: 0"), 0, 0, steps("0.0 0.0"))
	for _, many := range []int{5, 6, 10, 11, 12, 24, 25, 60, 61, api.MostSteps, api.MostSteps + 1, 100000} {
		l := slices.Repeat(steps("7.2"), many)
		leads(t, some(), 3, 3, l)
		leads(t, some(), 3, 4, append(slices.Clip(l), steps("7.1")...))
		leads(t, some(), 0, 3, append(steps("0.2"), l...))
		for _, at := range []int{0, many / 2, many - 1} {
			for _, wrong := range steps("0.0 7.0 7.3 8.1 8.0 10.0 6.1") {
				row := slices.Clone(l)
				row[at] = wrong
				if wrong.Prod == 7 && wrong.Dot == 0 && at == many-1 {
					leads(t, some(), 3, 1, row)
				} else {
					never(t, some(), row)
				}
			}
		}
		turns := slices.Repeat(steps("0.0 1.0 0.1 3.1"), many)
		leads(t, some(), 0, 0, turns)
		leads(t, some(), 1, 2, turns[1:4*many-1])
	}
}

// P13.2: false for a grammar that may not be, be the steps ones that it would have else, or any.
func TestLeadsInWhatMayNotBe(t *testing.T) {
	for what, g := range mayNot() {
		t.Run(what, func(t *testing.T) {
			for _, text := range []string{"", "0.0", "1.0", "1.1", "2.0", "2.1", "3.0", "0.0 1.0", "1.0 0.0", "-1.0", "4.0", "60.0", "0.-1"} {
				never(t, g, steps(text))
			}
		})
	}
	g := grammar(2, "0: 1; 1: 0 0; 1: a 1; 0: b")
	leads(t, g, 0, 0, steps("0.0 1.0"))
	leads(t, g, 1, 1, steps("1.0 0.0"))
	g.Prods[3].Left = 2
	never(t, g, steps("0.0 1.0"))
}
