package rank_test

import (
	"math"
	"slices"
	"strconv"
	"strings"
	"testing"

	"probate/api"
	"probate/gram"
	"probate/rank"
)

// asks holds whether facts show ranks, without terminals and with them, that it is told twice, and that the arguments stay as they were, also behind the list's end (R3, R4).
func asks(t *testing.T, g api.Grammar, l []api.Fact, without, with bool) {
	t.Helper()
	before := gram.Clone(g)
	room := append(slices.Clone(l), api.Fact{Rank: 5, Prod: 1}, api.Fact{})
	for range 2 {
		for terms, want := range map[bool]bool{false: without, true: with} {
			if got := rank.Shows(g, room[:len(l)], terms); got != want {
				t.Errorf("Shows(%v, %v, %v): %v", g, l, terms, got)
			}
		}
	}
	if !gram.Same(g, before) || !slices.Equal(room[:len(l)], l) || room[len(l)] != (api.Fact{Rank: 5, Prod: 1}) || room[len(l)+1] != (api.Fact{}) {
		t.Errorf("Shows changed %v, %v to %v, %v", before, l, g, room)
	}
}

// some has a nonterminal with two ways without terminals, some with one more way with them, and one with none without them.
func some() api.Grammar {
	return grammar(4, "0: 1 2; 0: 1; 1:; 2: 1 1; 2: a; 3: 3; 1: 2; 3: 0 a")
}

// P9.2: what is told shows; asked the other way around, what Nullable tells shows too, and what Productive tells if no terminal stands in its productions.
func TestToldShows(t *testing.T) {
	tells(t, some(), "2/1 1/2 2/3 -", "2/0 1/2 1/4 3/7")
	for text, bare := range map[string]bool{
		"0: 1 2; 0: 1; 1:; 2: 1 1; 2: a; 3: 3; 1: 2; 3: 0 a": false,
		"0: 1 1; 1:; 2: a":                false,
		"0: 1 1; 1:":                      true,
		"0: 1; 1: 2; 2: 3; 3:; 3: a":      true,
		"0: 1; 1: 2; 2: 3; 3: a; 3:":      false,
		"0: a":                            false,
		"0: 0":                            true,
		"0: a 0":                          true,
		"":                                true,
		"0: 1 2 3; 1: 2 3; 2: 3; 3:":      true,
		"3: 2 1; 2: 0; 1: 0 2; 0: b; 0: ": false,
	} {
		g := grammar(4, text)
		asks(t, g, rank.Nullable(g), true, true)
		asks(t, g, rank.Productive(g), bare, true)
	}
}

// P9.2: other ranks and productions than those told show, too: greater ranks, gaps between them, another production, one rank for many.
func TestOthersShow(t *testing.T) {
	for text, without := range map[string]bool{
		"2/1 1/2 2/3 -":   true,
		"3/0 1/2 2/3 -":   true,
		"4/0 1/2 2/3 -":   true,
		"9/1 1/2 2/3 -":   true,
		"9/1 8/2 9/3 -":   true,
		"60/0 5/2 59/3 -": true,
		"3/1 2/2 3/3 -":   true,
		"2/1 1/2 25/3 -":  true,
		"2/0 1/2 1/4 3/7": false,
		"2/1 1/2 1/4 3/7": false,
		"2/1 1/2 1/4 -":   false,
		"7/1 1/2 9/4 8/7": false,
		"- 2/6 1/4 -":     false,
		"4/0 3/6 2/4 -":   false,
		"4/1 3/6 2/4 5/7": false,
		"2/1 1/2 2/3 3/7": false,
		"2/1 1/2 2/3 9/7": false,
	} {
		asks(t, some(), facts(text), without, true)
	}
	far := []api.Fact{{Rank: math.MaxInt, Prod: 0}, {Rank: 1, Prod: 2}, {Rank: math.MaxInt - 1, Prod: 3}, {}}
	asks(t, some(), far, true, true)
	far[0], far[3] = api.Fact{Rank: math.MaxInt - 1, Prod: 1}, api.Fact{Rank: math.MaxInt, Prod: 7}
	asks(t, some(), far, false, true)
}

// P9.2: who has a rank may be of Rank 0, if nothing leans on it.
func TestFewerShow(t *testing.T) {
	for text, want := range map[string]bool{
		"- - - -":       true,
		"- 1/2 - -":     true,
		"2/1 1/2 - -":   true,
		"- 1/2 2/3 -":   true,
		"- 9/2 - -":     true,
		"2/1 - - -":     false,
		"- - 2/3 -":     false,
		"2/1 - 2/3 -":   false,
		"3/0 1/2 - -":   false,
		"3/0 - 2/3 -":   false,
		"1/0 - - -":     false,
		"3/0 1/2 - 0/0": false,
	} {
		asks(t, some(), facts(text), want, want)
	}
	asks(t, some(), facts("- - 1/4 -"), false, true)
	asks(t, some(), facts("- - - 3/7"), false, false)
	asks(t, some(), facts("- 1/2 1/4 3/7"), false, false)
}

// P9.2: there are as many facts as nonterminals; R6: no list, and an empty one, are one.
func TestHowMany(t *testing.T) {
	g := some()
	all := facts("2/1 1/2 2/3 - - - -")
	for many := range len(all) + 1 {
		asks(t, g, all[:many], many == 4, many == 4)
		asks(t, g, make([]api.Fact, many), many == 4, many == 4)
		asks(t, grammar(max(many, 4), "0: 1 2; 0: 1; 1:; 2: 1 1"), all[:many], many >= 4, many >= 4)
	}
	asks(t, g, all[1:5], false, false)
	asks(t, g, nil, false, false)
	asks(t, g, append(facts("2/1 1/2 2/3 -"), api.Fact{Rank: 1, Prod: 2}), false, false)
	one := grammar(1, "")
	asks(t, one, nil, false, false)
	asks(t, one, []api.Fact{}, false, false)
	asks(t, one, make([]api.Fact, 1), true, true)
	asks(t, one, make([]api.Fact, 2), false, false)
	asks(t, grammar(api.MostNons, ""), make([]api.Fact, api.MostNons), true, true)
	asks(t, grammar(api.MostNons, ""), make([]api.Fact, api.MostNons+1), false, false)
	asks(t, grammar(api.MostNons, ""), make([]api.Fact, api.MostNons-1), false, false)
}

// refuses holds that facts show nothing, whether with terminals or without, when one of them is another one.
func refuses(t *testing.T, g api.Grammar, right string, non int, f api.Fact) {
	t.Helper()
	l := facts(right)
	if !rank.Shows(g, l, true) {
		t.Errorf("%s doesn't show", right)
	}
	l[non] = f
	asks(t, g, l, false, false)
}

// P9.2: none is of a Rank below 0, whatever its Prod, and whether something leans on it or nothing.
func TestRankBelow(t *testing.T) {
	for _, r := range []int{-1, -2, -9, math.MinInt} {
		for prod := -1; prod <= 8; prod++ {
			for non := range 4 {
				refuses(t, some(), "2/1 1/2 2/3 -", non, api.Fact{Rank: r, Prod: prod})
				refuses(t, some(), "- - - -", non, api.Fact{Rank: r, Prod: prod})
			}
		}
		refuses(t, grammar(1, "0:"), "1/0", 0, api.Fact{Rank: r})
		refuses(t, grammar(1, ""), "-", 0, api.Fact{Rank: r})
	}
}

// P9.2: those of Rank 0 are of Prod 0, be there such a production, and of that nonterminal.
func TestProdOfNoRank(t *testing.T) {
	for _, prod := range []int{-1, -7, math.MinInt, 1, 2, 3, 4, 5, 6, 7, 8, 9, math.MaxInt} {
		for non := range 4 {
			refuses(t, some(), "- - - -", non, api.Fact{Prod: prod})
		}
		refuses(t, some(), "2/1 1/2 2/3 -", 0, api.Fact{Prod: prod})
		refuses(t, some(), "2/1 1/2 2/3 -", 3, api.Fact{Prod: prod})
		refuses(t, grammar(1, ""), "-", 0, api.Fact{Prod: prod})
	}
}

// P9.2: a Prod is one of the productions, and of that nonterminal.
func TestProd(t *testing.T) {
	for _, prod := range []int{-1, -2, -8, math.MinInt, 8, 9, 16, api.MostProds, math.MaxInt} {
		for non := range 4 {
			for _, r := range []int{1, 2, 3, 9, math.MaxInt} {
				refuses(t, some(), "2/1 1/2 2/3 -", non, api.Fact{Rank: r, Prod: prod})
			}
		}
	}
	for _, prod := range []int{-1, 0, 1, math.MinInt, math.MaxInt} {
		refuses(t, grammar(1, ""), "-", 0, api.Fact{Rank: 1, Prod: prod})
	}
	refuses(t, grammar(1, "0:"), "1/0", 0, api.Fact{Rank: 1, Prod: 1})
	refuses(t, grammar(1, "0:"), "1/0", 0, api.Fact{Rank: 1, Prod: -1})
	for prod, of := range []int{0, 0, 1, 2, 2, 3, 1, 3} {
		for non := range 4 {
			if non != of {
				refuses(t, some(), "2/1 1/2 2/3 -", non, api.Fact{Rank: 9, Prod: prod})
				refuses(t, some(), "2/0 1/2 1/4 3/7", non, api.Fact{Rank: 9, Prod: prod})
			}
		}
	}
	refuses(t, grammar(2, "0:; 1:"), "1/0 1/1", 0, api.Fact{Rank: 1, Prod: 1})
	refuses(t, grammar(2, "0:; 1:"), "1/0 1/1", 1, api.Fact{Rank: 1, Prod: 0})
}

// P9.2: a nonterminal in the production is of a Rank from 1 on, and less, at each place of it.
func TestRanksInTheProduction(t *testing.T) {
	for place := range api.MostRight {
		for size := place + 1; size <= api.MostRight; size++ {
			g := grammar(3, "0: "+strings.Repeat("1 ", place)+"2"+strings.Repeat(" 1", size-place-1)+"; 1:; 2:")
			for _, r := range []int{2, 3, 7, math.MaxInt} {
				own := strconv.Itoa(r) + "/0 1/1 "
				asks(t, g, facts(own+"-"), false, false)
				asks(t, g, facts(own+"1/2"), true, true)
				asks(t, g, facts(own+strconv.Itoa(r-1)+"/2"), true, true)
				asks(t, g, facts(own+strconv.Itoa(r)+"/2"), false, false)
				if r < math.MaxInt {
					asks(t, g, facts(own+strconv.Itoa(r+1)+"/2"), false, false)
				}
			}
			asks(t, g, facts("1/0 1/1 1/2"), false, false)
			asks(t, g, facts("1/0 - -"), false, false)
		}
	}
}

// P9.2: no nonterminal's fact leans on itself, nor in a ring.
func TestRings(t *testing.T) {
	for _, r := range []string{"1/0", "2/0", "24/0", "25/0"} {
		asks(t, grammar(1, "0: 0"), facts(r), false, false)
		asks(t, grammar(1, "0: 0; 0:"), facts(r), false, false)
		asks(t, grammar(1, "0: a 0; 0:"), facts(r), false, false)
	}
	for a := range 5 {
		for b := range 5 {
			l := []api.Fact{{Rank: a}, {Rank: b}}
			if b > 0 {
				l[1].Prod = 1
			}
			asks(t, grammar(2, "0: 1; 1: 0"), l, a+b == 0, a+b == 0)
			asks(t, grammar(2, "0: 1 a; 1: a 0"), l, a+b == 0, a+b == 0)
			ends := a > b && b > 0
			l[1] = api.Fact{Rank: b}
			if b > 0 {
				l[1].Prod = 2
			}
			asks(t, grammar(2, "0: 1; 1: 0; 1:"), l, ends || a == 0, ends || a == 0)
		}
	}
}

// P9.2: without terminals none stands in the production, at each place of it.
func TestTerminalsInTheProduction(t *testing.T) {
	for place := range api.MostRight {
		for size := place + 1; size <= api.MostRight; size++ {
			g := grammar(2, "0: "+strings.Repeat("1 ", place)+"a"+strings.Repeat(" 1", size-place-1)+"; 1:; 0: 1")
			asks(t, g, facts("2/0 1/1"), false, true)
			asks(t, g, facts("9/0 8/1"), false, true)
			asks(t, g, facts("2/2 1/1"), true, true)
			asks(t, g, facts("- 1/1"), true, true)
		}
	}
	asks(t, grammar(1, "0: a"), facts("1/0"), false, true)
	asks(t, grammar(1, "0: p p p p p p p p"), facts("1/0"), false, true)
	asks(t, grammar(1, "0: a; 0:"), facts("1/1"), true, true)
	asks(t, grammar(1, "0: a; 0:"), facts("-"), true, true)
	asks(t, grammar(2, "0: 1; 1: a"), facts("2/0 1/1"), false, true)
}

// P9.2: of a grammar that may not be nothing is shown, however many facts there are.
func TestShowsMayNotBe(t *testing.T) {
	for what, g := range mayNot() {
		t.Run(what, func(t *testing.T) {
			for _, text := range []string{"", "-", "- -", "1/0 -", "1/0 2/1", "- 1/1", "1/0", "1/3 2/2", "- - -"} {
				asks(t, g, facts(text), false, false)
			}
			asks(t, g, make([]api.Fact, api.MostNons+1), false, false)
			asks(t, g, rank.Nullable(g), false, false)
			asks(t, g, rank.Productive(g), false, false)
		})
	}
	asks(t, grammar(2, "0:; 1: 0 0; 1: a 1; 0: b"), facts("1/0 2/1"), true, true)
}
