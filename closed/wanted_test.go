package closed_test

import (
	"slices"
	"strconv"
	"testing"

	"probate/api"
	"probate/chart"
	"probate/sound"
)

// misses holds that sets, by their text, are closed, and that without an item at a place they aren't, for one reason alone.
func misses(t *testing.T, g api.Grammar, w, text string, at int, one, why string) {
	t.Helper()
	sets, it := setsOf(text), setsOf(one)[0][0]
	if !slices.Contains(sets[at], it) {
		t.Fatalf("%s doesn't stand at %d: %s", one, at, text)
	}
	closes(t, g, letters(w), sets)
	open(t, g, letters(w), without(sets, at, it), why)
	for _, other := range []api.Item{item(it.Prod, it.Dot, it.From+1), item(it.Prod, it.Dot, it.From-1)} { // From another place isn't it
		if wrong(g, at, other) == "" && !slices.Contains(sets[at], other) {
			less := with(without(sets, at, it), at, other)
			says(t, g, letters(w), less, false)
			says(t, g, letters(w), without(grown(g, letters(w), less), at, it), false)
		}
	}
	for place := range sets { // and neither does it stand in for itself elsewhere
		if place != at && it.From <= place && !slices.Contains(sets[place], it) {
			less := with(without(sets, at, it), place, it)
			says(t, g, letters(w), less, false)
			says(t, g, letters(w), without(grown(g, letters(w), less), at, it), false)
		}
	}
}

// P19.1, the first sentence: each production of Start, at place 0, From 0: of Start 0, a middle one and the last one, wherever its productions stand.
func TestStart(t *testing.T) {
	misses(t, of("0: a"), "a", "0.0.0; 0.1.0", 0, "0.0.0", "start")
	misses(t, of("0:"), "", "0.0.0", 0, "0.0.0", "start")
	misses(t, of("0: a; 0: b; 0:"), "b", "0.0.0 1.0.0 2.0.0; 1.1.0", 0, "0.0.0", "start")
	misses(t, of("0: a; 0: b; 0:"), "b", "0.0.0 1.0.0 2.0.0; 1.1.0", 0, "1.0.0", "start")
	misses(t, of("0: a; 0: b; 0:"), "b", "0.0.0 1.0.0 2.0.0; 1.1.0", 0, "2.0.0", "start")
	misses(t, of("0: a 0; 0: b"), "ab", "0.0.0 1.0.0; 0.1.0 0.0.1 1.0.1; 1.1.1 0.2.0", 0, "1.0.0", "start")
	misses(t, from(1, of("0: a; 1: 0; 0: b; 1: c")), "", "0.0.0 1.0.0 2.0.0 3.0.0", 0, "1.0.0", "start")
	misses(t, from(1, of("0: a; 1: 0; 0: b; 1: c")), "", "0.0.0 1.0.0 2.0.0 3.0.0", 0, "3.0.0", "start")
	for start := range api.MostNons {
		for _, first := range []string{"", as(strconv.Itoa((start+1)%api.MostNons)+": a;", 5)} {
			me := strconv.Itoa(start)
			g := from(start, grammar(api.MostNons, first+me+": b;"+first+me+": c;"+me+":"))
			sets := least(g, nil)
			if len(sets[0]) != 3 {
				t.Fatalf("%v", sets)
			}
			closes(t, g, nil, sets)
			for _, it := range sets[0] {
				open(t, g, nil, without(sets, 0, it), "start")
				if it != whole(g, it.Prod, 0) {
					open(t, g, nil, with(without(sets, 0, it), 0, whole(g, it.Prod, 0)), "start")
				}
			}
			open(t, g, nil, [][]api.Item{nil}, "start")
		}
	}
	// none is asked for at other places, nor of other nonterminals
	closes(t, of("0: a; 1: b"), letters("ab"), setsOf("0.0.0; 0.1.0;"))
	closes(t, from(1, of("0: a; 1: b")), letters("ab"), setsOf("1.0.0;;"))
	open(t, from(1, of("0: a; 1: b")), letters("ab"), setsOf("0.0.0; 0.1.0;"), "start")
	// as many productions as there may be
	g := of(as("0: a;", api.MostProds))
	for prod := range api.MostProds {
		open(t, g, nil, without(least(g, nil), 0, item(prod, 0, 0)), "start")
	}
}

// P19.1, the second sentence: each production of a nonterminal that is next, at that very place and From it.
func TestBegin(t *testing.T) {
	misses(t, of("0: 1; 1: a; 1: b"), "b", "0.0.0 1.0.0 2.0.0; 2.1.0 0.1.0", 0, "1.0.0", "begin")
	misses(t, of("0: a 1; 1: b; 1: c"), "ac", "0.0.0; 0.1.0 1.0.1 2.0.1; 2.1.1 0.2.0", 1, "1.0.1", "begin")
	misses(t, of("0: a 1; 1: b; 1: c"), "ac", "0.0.0; 0.1.0 1.0.1 2.0.1; 2.1.1 0.2.0", 1, "2.0.1", "begin")
	misses(t, of("0: a 1; 1: b"), "a", "0.0.0; 0.1.0 1.0.1", 1, "1.0.1", "begin") // at the last place
	misses(t, of("0: a 0; 0: b"), "aa", "0.0.0 1.0.0; 0.1.0 0.0.1 1.0.1; 0.1.1 0.0.2 1.0.2", 1, "1.0.1", "begin")
	misses(t, of("0: a 0; 0: b"), "aa", "0.0.0 1.0.0; 0.1.0 0.0.1 1.0.1; 0.1.1 0.0.2 1.0.2", 2, "1.0.2", "begin")
	misses(t, of("0: a 0; 0: b"), "aa", "0.0.0 1.0.0; 0.1.0 0.0.1 1.0.1; 0.1.1 0.0.2 1.0.2", 2, "0.0.2", "begin")
	misses(t, of("0: 1 a; 1: 2; 2: 3; 3: b"), "", "0.0.0 1.0.0 2.0.0 3.0.0", 0, "3.0.0", "begin")
	misses(t, of("0: 1 a; 1: 2; 2: 3; 3: b"), "", "0.0.0 1.0.0 2.0.0 3.0.0", 0, "2.0.0", "begin")
	misses(t, of("0: 1 2; 1:; 2: a"), "", "0.0.0 1.0.0 0.1.0 2.0.0", 0, "2.0.0", "begin") // behind what comes to nothing
	misses(t, of("0: a 1 1; 1: b; 1:"), "a", "0.0.0; 0.1.0 1.0.1 2.0.1 0.2.0 0.3.0", 1, "1.0.1", "begin")
	for non := range api.MostNons - 1 { // each nonterminal is next, and no other one's productions are asked for
		g := from(api.MostNons-1, grammar(api.MostNons, strconv.Itoa(api.MostNons-1)+": a "+strconv.Itoa(non)))
		for other := range api.MostNons - 1 {
			g.Prods = append(g.Prods, api.Prod{Left: other, Right: []api.Sym{{N: 2}}})
		}
		sets := [][]api.Item{{item(0, 0, 0)}, {item(0, 1, 0), item(non+1, 0, 1)}}
		closes(t, g, letters("a"), sets)
		open(t, g, letters("a"), without(sets, 1, item(non+1, 0, 1)), "begin")
		open(t, g, letters("a"), with(without(sets, 1, item(non+1, 0, 1)), 1, item(non+1, 0, 0)), "begin")
		open(t, g, letters("a"), with(without(sets, 1, item(non+1, 0, 1)), 0, item(non+1, 0, 0)), "begin")
		open(t, g, letters("a"), with(without(sets, 1, item(non+1, 0, 1)), 1, item(non+1, 1, 1)), "begin", "whole")
	}
	closes(t, grammar(2, "0: 1"), nil, setsOf("0.0.0")) // a nonterminal without productions
	closes(t, of("0: b; 1: c"), letters("a"), setsOf("0.0.0;"))
	for many := 1; many < api.MostProds; many++ { // so many productions
		g := of("0: 1;" + as("1: a;", many))
		sets := least(g, nil)
		closes(t, g, nil, sets)
		for _, prod := range []int{1, many/2 + 1, many} {
			open(t, g, nil, without(sets, 0, item(prod, 0, 0)), "begin")
		}
	}
}

// P19.1, the third sentence: an item behind a token, in the next set, and no such item behind another token.
func TestToken(t *testing.T) {
	misses(t, of("0: a"), "a", "0.0.0; 0.1.0", 1, "0.1.0", "token")
	misses(t, of("0: a b c"), "abc", "0.0.0; 0.1.0; 0.2.0; 0.3.0", 1, "0.1.0", "token")
	misses(t, of("0: a b c"), "abc", "0.0.0; 0.1.0; 0.2.0; 0.3.0", 2, "0.2.0", "token")
	misses(t, of("0: a b c"), "abc", "0.0.0; 0.1.0; 0.2.0; 0.3.0", 3, "0.3.0", "token")
	misses(t, of("0: a b; 0: a c; 0: b"), "ac", "0.0.0 1.0.0 2.0.0; 0.1.0 1.1.0; 1.2.0", 1, "0.1.0", "token")
	misses(t, of("0: a b; 0: a c; 0: b"), "ac", "0.0.0 1.0.0 2.0.0; 0.1.0 1.1.0; 1.2.0", 1, "1.1.0", "token")
	misses(t, of("0: a 1; 1: a a"), "aaa", "0.0.0; 0.1.0 1.0.1; 1.1.1; 1.2.1 0.2.0", 2, "1.1.1", "token")
	misses(t, of("0: a 1; 1: a a"), "aaa", "0.0.0; 0.1.0 1.0.1; 1.1.1; 1.2.1 0.2.0", 3, "1.2.1", "token")
	misses(t, of("0: a b c d e f g h"), "abcdefgh", "0.0.0; 0.1.0; 0.2.0; 0.3.0; 0.4.0; 0.5.0; 0.6.0; 0.7.0; 0.8.0", 8, "0.8.0", "token")
	for tok := range api.MostTerms { // the token's own items, of each token, and of no other one
		g := api.Grammar{Terms: api.MostTerms, Nons: 1}
		sets := make([][]api.Item, 3)
		for a := range api.MostTerms {
			g.Prods = append(g.Prods, api.Prod{Right: []api.Sym{{N: a}, {N: tok}}})
			sets[0] = append(sets[0], item(a, 0, 0))
		}
		sets[1], sets[2] = []api.Item{item(tok, 1, 0)}, []api.Item{item(tok, 2, 0)}
		closes(t, g, []int{tok, tok}, sets)
		open(t, g, []int{tok, tok}, without(sets, 1, item(tok, 1, 0)), "token")
		open(t, g, []int{tok, tok}, without(sets, 2, item(tok, 2, 0)), "token")
		for other := range api.MostTerms {
			if other != tok {
				open(t, g, []int{other, tok}, sets, "token")
				open(t, g, []int{other, tok}, without(sets, 1, item(tok, 1, 0)), "token")
				closes(t, g, []int{tok, other}, sets)
				closes(t, g, []int{tok, other}, without(sets, 2, item(tok, 2, 0)))
			}
		}
	}
	closes(t, of("0: a b c"), letters("acc"), setsOf("0.0.0; 0.1.0;;"))
	closes(t, of("0: a b c"), letters("bbc"), setsOf("0.0.0;;;"))
	closes(t, of("0: a"), letters("aa"), setsOf("0.0.0; 0.1.0;")) // what is whole isn't read on
	closes(t, of("0: 1; 1: c; 2: a"), []int{1}, setsOf("0.0.0 1.0.0;"))
	closes(t, of("0: 1; 1: c"), []int{1}, setsOf("0.0.0 1.0.0;")) // token 1 is no nonterminal 1
	closes(t, of("0: 0 b; 0: c"), []int{0}, setsOf("0.0.0 1.0.0;"))
	closes(t, of("0: a 1; 1: b"), []int{0, 1}, setsOf("0.0.0; 0.1.0 1.0.1; 1.1.1 0.2.0"))
	w := letters(as("a", api.MostWord)) // at each place
	g := of("0: a 0; 0: b")
	for at := 1; at <= api.MostWord; at++ {
		open(t, g, w, without(least(g, w), at, item(0, 1, at-1)), "token")
	}
}

// P19.1, the fourth sentence: what waits for what is whole, at the place at which that began, and nothing that waits elsewhere.
func TestWhole(t *testing.T) {
	misses(t, of("0: 1 b; 1: a"), "ab", "0.0.0 1.0.0; 1.1.0 0.1.0; 0.2.0", 1, "0.1.0", "whole")
	misses(t, of("0: a 1; 1: b"), "ab", "0.0.0; 0.1.0 1.0.1; 1.1.1 0.2.0", 2, "0.2.0", "whole")
	misses(t, of("0: 1; 1: 2; 2: a"), "a", "0.0.0 1.0.0 2.0.0; 2.1.0 1.1.0 0.1.0", 1, "0.1.0", "whole")
	misses(t, of("0: 1; 1: 2; 2: a"), "a", "0.0.0 1.0.0 2.0.0; 2.1.0 1.1.0 0.1.0", 1, "1.1.0", "whole")
	misses(t, of("0: a 1 d; 1: b c"), "abcd", "0.0.0; 0.1.0 1.0.1; 1.1.1; 1.2.1 0.2.0; 0.3.0", 3, "0.2.0", "whole")
	misses(t, of("0: 1 b; 0: 1 c; 1: a"), "ab", "0.0.0 1.0.0 2.0.0; 2.1.0 0.1.0 1.1.0; 0.2.0", 1, "0.1.0", "whole") // each of those that wait
	misses(t, of("0: 1 b; 0: 1 c; 1: a"), "ab", "0.0.0 1.0.0 2.0.0; 2.1.0 0.1.0 1.1.0; 0.2.0", 1, "1.1.0", "whole")
	misses(t, of("0: a 0; 0: b"), "aab", "0.0.0 1.0.0; 0.1.0 0.0.1 1.0.1; 0.1.1 0.0.2 1.0.2; 1.1.2 0.2.1 0.2.0", 3, "0.2.1", "whole")
	misses(t, of("0: a 0; 0: b"), "aab", "0.0.0 1.0.0; 0.1.0 0.0.1 1.0.1; 0.1.1 0.0.2 1.0.2; 1.1.2 0.2.1 0.2.0", 3, "0.2.0", "whole")
	misses(t, of("0: 1 1; 1: a"), "aa", "0.0.0 1.0.0; 1.1.0 0.1.0 1.0.1; 1.1.1 0.2.0", 2, "0.2.0", "whole")
	misses(t, of("0: 1 1; 1: a"), "aa", "0.0.0 1.0.0; 1.1.0 0.1.0 1.0.1; 1.1.1 0.2.0", 1, "0.1.0", "whole")
	// where it began there are others, too; elsewhere others wait
	misses(t, of("0: 1 2 b; 1: a; 2: a; 0: a 1 c"), "aa", "0.0.0 1.0.0 3.0.0; 1.1.0 3.1.0 0.1.0 1.0.1 2.0.1; 1.1.1 2.1.1 3.2.0 0.2.0", 2, "0.2.0", "whole")
	misses(t, of("0: 1 2 b; 1: a; 2: a; 0: a 1 c"), "aa", "0.0.0 1.0.0 3.0.0; 1.1.0 3.1.0 0.1.0 1.0.1 2.0.1; 1.1.1 2.1.1 3.2.0 0.2.0", 2, "3.2.0", "whole")
	closes(t, of("0: 1 b; 1: a; 2: a"), letters("a"), setsOf("0.0.0 1.0.0 2.0.0; 1.1.0 0.1.0 2.1.0")) // nothing waits for 2
	closes(t, of("0: b 1; 1: a; 0: 1 a"), letters("ba"), setsOf("0.0.0 1.0.0 2.0.0; 0.1.0 1.0.1; 1.1.1 0.2.0"))
	for at := range api.MostWord { // of each number of tokens
		g, w := of("0: 1 b; 1: a 1; 1: c"), letters(as("a", at)+"c")
		sets := least(g, w)
		closes(t, g, w, sets)
		open(t, g, w, without(sets, at+1, item(0, 1, 0)), "whole")
		for from := range at {
			open(t, g, w, without(sets, at+1, item(1, 2, from)), "whole")
		}
	}
}

// P19.1, the fourth sentence: what is whole at the place at which it began.
func TestWholeHere(t *testing.T) {
	misses(t, of("0: 1; 1:"), "", "0.0.0 1.0.0 0.1.0", 0, "0.1.0", "whole")
	misses(t, of("0: 1 a; 1:"), "a", "0.0.0 1.0.0 0.1.0; 0.2.0", 0, "0.1.0", "whole")
	misses(t, of("0: a 1; 1:"), "a", "0.0.0; 0.1.0 1.0.1 0.2.0", 1, "0.2.0", "whole")
	misses(t, of("0: a 1 b; 1:"), "ab", "0.0.0; 0.1.0 1.0.1 0.2.0; 0.3.0", 1, "0.2.0", "whole")
	misses(t, of("0: 1 2; 1:; 2:"), "", "0.0.0 1.0.0 0.1.0 2.0.0 0.2.0", 0, "0.2.0", "whole")
	misses(t, of("0: 1 2; 1:; 2:"), "", "0.0.0 1.0.0 0.1.0 2.0.0 0.2.0", 0, "0.1.0", "whole")
	misses(t, of("0: 1 1 1; 1:"), "", "0.0.0 1.0.0 0.1.0 0.2.0 0.3.0", 0, "0.2.0", "whole")
	misses(t, of("0: 1 1 1; 1:"), "", "0.0.0 1.0.0 0.1.0 0.2.0 0.3.0", 0, "0.3.0", "whole")
	misses(t, of("0: 1; 1: 2; 2:"), "", "0.0.0 1.0.0 2.0.0 1.1.0 0.1.0", 0, "1.1.0", "whole")
	misses(t, of("0: 1; 1: 2; 2:"), "", "0.0.0 1.0.0 2.0.0 1.1.0 0.1.0", 0, "0.1.0", "whole")
	misses(t, of("0: 1 1; 1: a; 1:"), "a", "0.0.0 1.0.0 2.0.0 0.1.0 0.2.0; 1.1.0 0.1.0 0.2.0 1.0.1 2.0.1", 1, "0.2.0", "whole")
	for at := range api.MostRight { // at each place of a production
		g, w := of("0:"+as(" a", at)+" 1"+as(" a", api.MostRight-at-1)+"; 1:"), letters(as("a", api.MostRight-1))
		sets := least(g, w)
		closes(t, g, w, sets)
		open(t, g, w, without(sets, at, item(0, at+1, 0)), "whole")
	}
}

// orders does something for each order of a list.
func orders[T any](l []T, do func(l []T)) {
	var from func(at int)
	from = func(at int) {
		if at >= len(l)-1 {
			do(l)
			return
		}
		for i := at; i < len(l); i++ {
			l[at], l[i] = l[i], l[at]
			from(at + 1)
			l[at], l[i] = l[i], l[at]
		}
	}
	from(0)
}

// P19.1: whichever of an item and what follows from it stands first in a set, and whichever of what is whole and what waits for it: in each order of each set, all are asked for, and none else.
func TestOrders(t *testing.T) {
	for _, c := range []struct{ text, w string }{
		{"0: 1; 1:", ""}, {"0: 1 1; 1:", ""}, {"0: 1 1 1; 1:", ""}, {"0: 1 2; 1:; 2:", ""}, {"0: 1; 1: 2; 2:", ""}, {"0: a 1; 1:", "a"}, {"0: a 1 1; 1: b; 1:", "a"}, {"0: 1 b; 1: a; 1:", "ab"},
		{"0: 1; 1: 2; 2: a", "a"}, {"0: a 0; 0: b", "ab"}, {"0: a 0; 0:", "aa"}, {"0: 1 1; 1: a; 1:", "a"}, {"0: 0 a; 0:", "a"},
	} {
		g, w := of(c.text), letters(c.w)
		all := least(g, w)
		for at := range all {
			orders(slices.Clone(all[at]), func(set []api.Item) {
				sets := copied(all)
				sets[at] = set
				says(t, g, w, sets, true)
			})
			for place, others := range all {
				for _, gone := range others {
					less := without(all, place, gone)
					orders(slices.Clone(less[at]), func(set []api.Item) {
						sets := copied(less)
						sets[at] = set
						says(t, g, w, sets, false)
					})
				}
			}
		}
	}
}

// P19.1: of each grammar, and words, the least sets, and none of them that has an item less; and neither has one of those that fit more.
func TestEachMissing(t *testing.T) {
	for _, g := range some() {
		for _, text := range append(words(2, 4), "abc", "aab", "aaaab", "abcdefgh", "babab") {
			w := letters(text)
			sets := least(g, w)
			closes(t, g, w, sets)
			eachMissing(t, g, w, sets)
			if _, e := sound.Check(g); e == api.OK {
				told := chart.Sets(g, w)
				closes(t, g, w, told)
				for at, set := range sets {
					if len(set) != len(told[at]) {
						t.Fatalf("of %v, %v: %v, but worked out %v", g, w, told, sets)
					}
				}
			}
		}
		w := letters("ab")
		eachMissing(t, g, w, full(g, 3))
	}
}
