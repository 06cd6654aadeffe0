package reach_test

import (
	"math"
	"slices"
	"strings"
	"testing"

	"probate/api"
	"probate/gram"
	"probate/reach"
)

// asks holds whether facts show, that it is told twice, and that the arguments stay as they were, also behind the list's end (R3, R4).
func asks(t *testing.T, g api.Grammar, l []api.Fact, want bool) {
	t.Helper()
	before := gram.Clone(g)
	room := append(slices.Clone(l), api.Fact{Rank: 5, Prod: 1}, api.Fact{})
	for range 2 {
		if got := reach.Shows(g, room[:len(l)]); got != want {
			t.Errorf("Shows(%v, %v): %v", g, l, got)
		}
	}
	if !gram.Same(g, before) || !slices.Equal(room[:len(l)], l) || room[len(l)] != (api.Fact{Rank: 5, Prod: 1}) || room[len(l)+1] != (api.Fact{}) {
		t.Errorf("Shows changed %v, %v to %v, %v", before, l, g, room)
	}
}

// refuses holds that facts that show don't, when one of them is another one.
func refuses(t *testing.T, g api.Grammar, right string, non int, f api.Fact) {
	t.Helper()
	l := facts(right)
	asks(t, g, l, true)
	l[non] = f
	asks(t, g, l, false)
}

// some has nonterminals with several ways, some of them behind a terminal, two that stand in productions of their own, and one of these isn't reached.
func some() api.Grammar {
	return grammar(5, "0: 1 2; 0: a 1; 1: 0 3; 2: 1 a; 4: 4 3; 2: d 3; 3: 2 3 d; 1: 2 b")
}

// P10.2: what is told shows, of whatever Start.
func TestToldShows(t *testing.T) {
	tells(t, 0, some(), "1/0 2/0 2/0 3/2 -")
	tells(t, 4, some(), "5/2 4/3 3/6 2/4 1/0")
	for _, text := range []string{"", "0: 0", "0: 1; 1: 0; 2: 3; 3: 2", "0: 1 2 3; 1: 2 3; 2: 3; 3: 4; 4: 0", "4: 3; 3: 2; 2: 1; 1: 0", "0: a; 1: b", "2: 1; 0: 2 2; 1: 4 a 3; 3: 0 0"} {
		for start := range 5 {
			g := grammar(5, text)
			g.Start = start
			asks(t, g, reach.Reach(g), true)
		}
	}
	for _, back := range []bool{false, true} {
		g := grammar(api.MostNons, chain("", func(non int) int { return non }))
		if back {
			g = grammar(api.MostNons, chain("", func(non int) int { return api.MostNons - 1 - non }))
			g.Start = api.MostNons - 1
		}
		asks(t, g, reach.Reach(g), true)
	}
}

// P10.2: other ranks and productions than those told show, too: greater ranks, gaps between them, another production in which the nonterminal stands.
func TestOthersShow(t *testing.T) {
	for _, text := range []string{
		"1/0 2/0 2/0 3/2 -",
		"1/0 2/1 2/0 3/2 -",
		"1/0 2/0 2/0 3/5 -",
		"1/0 3/0 2/0 3/5 -",
		"1/0 9/0 2/0 3/5 -",
		"1/0 9/1 8/0 9/5 -",
		"1/0 2/0 2/0 99/2 -",
		"1/0 2/1 3/7 4/5 -",
		"1/0 2/1 3/7 3/2 -",
		"1/0 2/0 4/6 3/2 -",
		"1/0 3/3 2/0 4/2 -",
		"1/0 3/3 2/0 3/5 -",
		"1/0 60/3 59/0 61/2 -",
		"1/0 60/3 5/0 6/5 -",
	} {
		asks(t, some(), facts(text), true)
	}
	far := []api.Fact{{Rank: 1}, {Rank: math.MaxInt - 1, Prod: 3}, {Rank: math.MaxInt - 2}, {Rank: math.MaxInt, Prod: 2}, {}}
	asks(t, some(), far, true)
	far[1].Rank = math.MaxInt
	asks(t, some(), far, false)
	for _, text := range []string{"1/0 2/0 3/1", "1/0 5/0 6/1", "1/0 2/0 2/2", "1/0 4/0 2/2", "1/0 2/0 77/2", "1/0 3/3 2/2", "1/0 9/3 8/2"} {
		asks(t, grammar(3, "0: 1; 1: 2; 0: 2; 2: 1"), facts(text), true)
	}
}

// P10.2: who is reached may be of Rank 0, if nothing leans on it.
func TestFewerShow(t *testing.T) {
	for text, want := range map[string]bool{
		"1/0 - - - -":       true,
		"1/0 2/0 - - -":     true,
		"1/0 2/1 - - -":     true,
		"1/0 - 2/0 - -":     true,
		"1/0 2/0 - 3/2 -":   true,
		"1/0 - 2/0 3/5 -":   true,
		"1/0 3/3 2/0 - -":   true,
		"1/0 2/0 3/7 - -":   true,
		"1/0 2/0 2/0 - -":   true,
		"1/0 3/3 - - -":     false,
		"1/0 - 3/7 - -":     false,
		"1/0 - 9/6 - -":     false,
		"1/0 - 2/0 3/2 -":   false,
		"1/0 2/0 - 3/5 -":   false,
		"1/0 - - 3/2 -":     false,
		"1/0 - - 3/5 -":     false,
		"1/0 - - 2/4 -":     false,
		"1/0 - - 2/4 2/4":   false,
		"1/0 2/0 2/0 - 2/4": false,
	} {
		asks(t, some(), facts(text), want)
	}
	for i := 1; i < api.MostNons; i++ {
		g := grammar(api.MostNons, chain("", func(non int) int { return non }))
		l := reach.Reach(g)
		clear(l[i:])
		asks(t, g, l, true)
		l = reach.Reach(g)
		l[i] = api.Fact{}
		asks(t, g, l, i == api.MostNons-1)
	}
}

// P10.2: there are as many facts as nonterminals; R6: no list, and an empty one, are one.
func TestHowMany(t *testing.T) {
	all := facts("1/0 2/0 2/0 3/2 - - - -")
	for many := range len(all) + 1 {
		asks(t, some(), all[:many], many == 5)
		g := some()
		g.Nons = max(many, 5)
		asks(t, g, all[:many], many >= 5)
	}
	asks(t, some(), nil, false)
	asks(t, some(), append(facts("1/0 2/0 2/0 3/2 -"), api.Fact{Rank: 3, Prod: 2}), false)
	one := grammar(1, "0: 0")
	asks(t, one, nil, false)
	asks(t, one, []api.Fact{}, false)
	asks(t, one, facts("1/0"), true)
	asks(t, one, facts("1/0 -"), false)
	for start := range api.MostNons {
		g := api.Grammar{Nons: api.MostNons, Start: start}
		l := make([]api.Fact, api.MostNons+1)
		l[start].Rank = 1
		asks(t, g, l, false)
		asks(t, g, l[:api.MostNons], true)
		asks(t, g, l[:api.MostNons-1], false)
		asks(t, g, l[:start], false)
		asks(t, g, l[:0], false)
	}
}

// P10.2: Start's fact is of Rank 1 and Prod 0, and of nothing else, be it that Start stands in a production.
func TestStartsFact(t *testing.T) {
	wrong := []api.Fact{{}, {Rank: 2}, {Rank: 3}, {Rank: -1}, {Rank: 24}, {Rank: math.MaxInt}, {Rank: math.MinInt}, {Prod: 1}, {Prod: -1}, {Rank: 2, Prod: 1}, {Rank: 2, Prod: 2}}
	for _, prod := range []int{-1, 1, 2, 3, 4, 8, 9, math.MinInt, math.MaxInt} {
		wrong = append(wrong, api.Fact{Rank: 1, Prod: prod})
	}
	for _, f := range wrong {
		refuses(t, grammar(1, ""), "1/0", 0, f)
		refuses(t, grammar(1, "0: 0"), "1/0", 0, f)
		refuses(t, grammar(1, "0: a; 0: 0"), "1/0", 0, f)
		refuses(t, some(), "1/0 2/0 2/0 3/2 -", 0, f)
		refuses(t, some(), "1/0 - - - -", 0, f)
		refuses(t, some(), "1/0 8/0 8/0 9/2 -", 0, f)
		for start, right := range []string{"1/0 2/1 3/3", "2/0 1/0 2/3", "2/2 3/1 1/0"} {
			g := grammar(3, "1: 0; 0: 1; 2: 0; 1: 2")
			g.Start = start
			refuses(t, g, right, start, f)
		}
	}
}

// P10.2: none is of a Rank below 0, whatever its Prod, and whether something leans on it or nothing.
func TestRankBelow(t *testing.T) {
	for _, r := range []int{-1, -2, -9, math.MinInt} {
		for non := range 5 {
			for prod := -1; prod <= 8; prod++ {
				refuses(t, some(), "1/0 2/0 2/0 3/2 -", non, api.Fact{Rank: r, Prod: prod})
				refuses(t, some(), "1/0 - - - -", non, api.Fact{Rank: r, Prod: prod})
			}
		}
	}
	asks(t, some(), facts("1/0 - - 2/4 -1/4"), false)
	asks(t, some(), facts("1/0 - - - -1/0"), false)
	asks(t, some(), facts("1/0 - - 2/4 -1/0"), false)
	asks(t, some(), facts("1/0 - -2/6 -1/6 -"), false)
}

// P10.2: those of Rank 0 are of Prod 0, be there such a production, and one in which the nonterminal stands.
func TestProdOfNoRank(t *testing.T) {
	for _, prod := range []int{-1, -7, math.MinInt, 1, 2, 3, 4, 5, 6, 7, 8, 9, math.MaxInt} {
		for non := 1; non < 5; non++ {
			refuses(t, some(), "1/0 - - - -", non, api.Fact{Prod: prod})
		}
		refuses(t, some(), "1/0 2/0 2/0 3/2 -", 4, api.Fact{Prod: prod})
		refuses(t, some(), "1/0 2/0 2/0 3/2 -", 3, api.Fact{Prod: prod})
		refuses(t, grammar(2, ""), "1/0 -", 1, api.Fact{Prod: prod})
	}
}

// P10.2: a Prod is one of the productions.
func TestProd(t *testing.T) {
	for _, prod := range []int{-1, -2, -8, math.MinInt, 8, 9, 16, api.MostProds, math.MaxInt} {
		for non := 1; non < 5; non++ {
			for _, r := range []int{1, 2, 3, 9, math.MaxInt} {
				refuses(t, some(), "1/0 2/0 2/0 3/2 -", non, api.Fact{Rank: r, Prod: prod})
			}
		}
	}
	for _, prod := range []int{-1, 0, 1, math.MinInt, math.MaxInt} {
		refuses(t, grammar(2, ""), "1/0 -", 1, api.Fact{Rank: 2, Prod: prod})
	}
	refuses(t, grammar(2, "0: 1"), "1/0 2/0", 1, api.Fact{Rank: 2, Prod: 1})
	refuses(t, grammar(2, "0: 1"), "1/0 2/0", 1, api.Fact{Rank: 2, Prod: -1})
}

// P10.2: the nonterminal stands in the production itself: neither a terminal of its number does, nor is it enough that the production is its own.
func TestStands(t *testing.T) {
	stand := [][]int{{1, 2}, {1}, {0, 3}, {1}, {4, 3}, {3}, {2, 3}, {2}}
	for prod, who := range stand {
		for non, right := range []string{1: "1/0 2/0 2/0 3/5 -", 2: "1/0 2/0 2/0 3/2 -", 3: "1/0 2/0 2/0 3/2 -"} {
			if non > 0 {
				l, left := facts(right), some().Prods[prod].Left
				l[non] = api.Fact{Rank: 99, Prod: prod}
				asks(t, some(), l, slices.Contains(who, non) && left != non && left != 4)
			}
		}
	}
	asks(t, some(), facts("1/0 2/0 2/0 3/0 -"), false)
	asks(t, some(), facts("1/0 2/0 2/1 3/2 -"), false)
	asks(t, grammar(2, "0: b; 0: 1"), facts("1/0 2/0"), false)
	asks(t, grammar(2, "0: b; 0: 1"), facts("1/0 2/1"), true)
	asks(t, grammar(2, "0: a; 0: 1"), facts("1/0 2/0"), false)
	asks(t, grammar(2, "0:; 0: 1"), facts("1/0 2/0"), false)
	asks(t, grammar(2, "1: a; 0: 1"), facts("1/0 2/0"), false)
	asks(t, grammar(3, "0: b 2 b; 2: a b 1 b"), facts("1/0 9/0 2/0"), false)
	asks(t, grammar(3, "0: b 2 b; 2: a b 1 b"), facts("1/0 9/1 2/0"), true)
	for place := range api.MostRight {
		for size := place + 1; size <= api.MostRight; size++ {
			for _, fill := range []string{"b", "0", "c"} {
				before, behind := strings.Repeat(fill+" ", place), strings.Repeat(" "+fill, size-place-1)
				asks(t, grammar(2, "0: "+before+"1"+behind), facts("1/0 2/0"), true)
				asks(t, grammar(2, "0: "+before+"b"+behind), facts("1/0 2/0"), false)
				asks(t, grammar(2, "0: "+before+"0"+behind), facts("1/0 2/0"), false)
			}
		}
	}
}

// P10.2: the production is one of a nonterminal whose Rank is 1 at least, and less.
func TestRankOfWhoLeads(t *testing.T) {
	g := grammar(3, "0: 1; 1: 2; 2: 2; 2: 1")
	for own := 1; own < 9; own++ {
		for _, of := range []int{0, 1, 2, 3, 7, 8, 9, 99} {
			l := []api.Fact{{Rank: 1}, {Rank: of}, {Rank: own, Prod: 1}}
			asks(t, g, l, 2 <= of && of < own)
			l[2].Prod = 2
			asks(t, g, l, false)
			l[1], l[2] = api.Fact{Rank: of, Prod: 3}, api.Fact{Rank: own, Prod: 1}
			asks(t, g, l, false)
		}
		asks(t, g, []api.Fact{{Rank: 1}, {}, {Rank: own, Prod: 1}}, false)
		asks(t, g, []api.Fact{{Rank: 1}, {Rank: own}, {}}, own > 1)
	}
	asks(t, grammar(2, "0: 1"), facts("1/0 1/0"), false)
	asks(t, grammar(3, "0: 1; 2: 1"), facts("1/0 2/0 -"), true)
	asks(t, grammar(3, "0: 1; 2: 1"), facts("1/0 2/1 -"), false)
	asks(t, grammar(3, "0: 1; 2: 1"), facts("1/0 2/1 1/1"), false)
}

// P10.2: no nonterminal's fact leans on itself, nor do those of a ring on each other.
func TestRings(t *testing.T) {
	for a := range 6 {
		for b := range 6 {
			l := []api.Fact{{Rank: 1}, {Rank: a}, {Rank: b, Prod: min(b, 1)}}
			asks(t, grammar(3, "2: 1; 1: 2"), l, a+b == 0)
			asks(t, grammar(3, "2: a 1 b; 1: 2 a"), l, a+b == 0)
			asks(t, grammar(3, "2: 1; 1: 2; 0: 0"), l, a+b == 0)
			asks(t, grammar(3, "0: 1; 1: 2; 2: 1"), l, a > 1 && (b == 0 || b > a) || a+b == 0)
		}
		asks(t, grammar(2, "1: 1"), []api.Fact{{Rank: 1}, {Rank: a}}, a == 0)
		asks(t, grammar(2, "1: 1; 0: 1"), []api.Fact{{Rank: 1}, {Rank: a, Prod: min(a, 1)}}, a != 1)
	}
}

// P10.2: of a grammar that may not be nothing is shown, however many facts there are.
func TestShowsMayNotBe(t *testing.T) {
	for what, g := range mayNot() {
		t.Run(what, func(t *testing.T) {
			for _, text := range []string{"", "-", "1/0", "- -", "1/0 -", "1/0 2/0", "1/0 2/2", "- 1/0", "2/1 1/0", "1/0 2/0 -", "1/0 - -"} {
				asks(t, g, facts(text), false)
			}
			for start := range api.MostNons + 1 {
				l := make([]api.Fact, api.MostNons+1)
				l[start].Rank = 1
				asks(t, g, l, false)
			}
			asks(t, g, reach.Reach(g), false)
		})
	}
	g := grammar(2, "0: 1; 1: 0 0; 1: a 1; 0: b")
	asks(t, g, facts("1/0 2/0"), true)
	asks(t, g, facts("1/0 -"), true)
	g.Start = 1
	asks(t, g, facts("1/0 2/0"), false)
	asks(t, g, facts("2/1 1/0"), true)
}
