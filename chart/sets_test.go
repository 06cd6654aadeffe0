package chart_test

import (
	"slices"
	"strconv"
	"strings"
	"testing"

	"probate/api"
	"probate/chart"
)

// P18.1, the first sentence: Start's productions stand at place 0, each of them and no others, and at no other place, if nothing asks for Start again.
func TestStart(t *testing.T) {
	tells(t, of("0: a; 0: b"), "ab", "0.0.0 1.0.0; 0.1.0;")
	tells(t, of("0: a; 0: b"), "ba", "0.0.0 1.0.0; 1.1.0;")
	tells(t, of("1: c; 0: a 1; 1: d; 0: b"), "acd", "1.0.0 3.0.0; 0.0.1 1.1.0 2.0.1; 0.1.1 1.2.0;")
	tells(t, of("0: a 1 a 1; 0: a; 1: b"), "abab", "0.0.0 1.0.0; 0.1.0 1.1.0 2.0.1; 0.2.0 2.1.1; 0.3.0 2.0.3; 0.4.0 2.1.3")
	tells(t, of("0: a 0; 0: b"), "aab", "0.0.0 1.0.0; 0.0.1 0.1.0 1.0.1; 0.0.2 0.1.1 1.0.2; 0.2.0 0.2.1 1.1.2")
	tells(t, of("0: a 0; 0: b"), "ba", "0.0.0 1.0.0; 1.1.0;")
	g := of("0: a; 1: b 0; 1: 0")
	tells(t, from(1, g), "a", "0.0.0 1.0.0 2.0.0; 0.1.0 2.1.0")
	tells(t, from(1, g), "ba", "0.0.0 1.0.0 2.0.0; 0.0.1 1.1.0; 0.1.1 1.2.0")
	tells(t, from(1, of("1: b 0; 0: a; 0: c 1")), "bcba", "0.0.0; 0.1.0 1.0.1 2.0.1; 0.0.2 2.1.1; 0.1.2 1.0.3 2.0.3; 0.2.0 0.2.2 1.1.3 2.2.1")
	for start := range api.MostNons { // each in a ring, so that all are reached, and none but Start is asked for at place 0
		g := from(start, grammar(api.MostNons, ring()+strconv.Itoa(start)+":"))
		holds(t, g, []int{1}, [][]api.Item{{item(start, 0, 0), item(api.MostNons, 0, 0)}, nil})
		next := (start + 1) % api.MostNons
		want := []api.Item{item(start, 1, 0), item(next, 0, 1)}
		if next < start {
			slices.Reverse(want)
		}
		holds(t, g, []int{0}, [][]api.Item{{item(start, 0, 0), item(api.MostNons, 0, 0)}, want})
	}
}

// P18.1, the second sentence: the productions of a nonterminal that is next, at that very place, and of no other.
func TestAskedFor(t *testing.T) {
	g := of("0: a 1 b; 1: c; 1: d 2; 2: a")
	tells(t, g, "adab", "0.0.0; 0.1.0 1.0.1 2.0.1; 2.1.1 3.0.2; 0.2.0 2.2.1 3.1.2; 0.3.0")
	tells(t, g, "acb", "0.0.0; 0.1.0 1.0.1 2.0.1; 0.2.0 1.1.1; 0.3.0")
	tells(t, of("0: 1 2; 1: a; 2: b; 2: c 1"), "aca", "0.0.0 1.0.0; 0.1.0 1.1.0 2.0.1 3.0.1; 1.0.2 3.1.1; 0.2.0 1.1.2 3.2.1")
	tells(t, of("0: 1; 1: 2; 2: 3; 3: a 1; 3: b"), "ab", "0.0.0 1.0.0 2.0.0 3.0.0 4.0.0; 1.0.1 2.0.1 3.0.1 3.1.0 4.0.1; 0.1.0 1.1.0 1.1.1 2.1.0 2.1.1 3.2.0 4.1.1")
	tells(t, of("0: a b; 0: a 1; 1: b"), "ab", "0.0.0 1.0.0; 0.1.0 1.1.0 2.0.1; 0.2.0 1.2.0 2.1.1")
	for ahead := range api.MostRight { // so many tokens stand ahead of it
		symbols := strings.Split("c d e f g h i j", " ")
		symbols[ahead] = "1"
		g := of("0: " + strings.Join(symbols, " ") + "; 1: a; 1: b")
		w := letters("cdefghij"[:ahead])
		want := make([][]api.Item, ahead+1)
		for at := range want {
			want[at] = []api.Item{item(0, at, 0)}
		}
		want[ahead] = append(want[ahead], item(1, 0, ahead), item(2, 0, ahead))
		holds(t, g, w, want)
	}
}

// P18.1, the third sentence: an item behind a token that is its next symbol, and none behind another one, of each two tokens.
func TestBehindToken(t *testing.T) {
	g := api.Grammar{Terms: api.MostTerms, Nons: 1}
	for tok := range api.MostTerms {
		g.Prods = append(g.Prods, api.Prod{Right: []api.Sym{{N: tok}, {N: (tok + 1) % api.MostTerms}}})
	}
	for a := range api.MostTerms {
		for b := range api.MostTerms {
			want := make([][]api.Item, 3)
			for prod := range g.Prods {
				want[0] = append(want[0], item(prod, 0, 0))
			}
			want[1] = []api.Item{item(a, 1, 0)}
			if b == (a+1)%api.MostTerms {
				want[2] = []api.Item{item(a, 2, 0)}
			}
			holds(t, g, []int{a, b}, want)
		}
	}
	tells(t, of("0: a 1 c; 1: b; 1: a"), "aac", "0.0.0; 0.1.0 1.0.1 2.0.1; 0.2.0 2.1.1; 0.3.0")
	tells(t, of("0: a 1 c; 1: b; 1: a"), "abb", "0.0.0; 0.1.0 1.0.1 2.0.1; 0.2.0 1.1.1;")
	tells(t, of("0: 1; 1: a b; 1: a c; 1: a a; 0: a"), "ac", "0.0.0 1.0.0 2.0.0 3.0.0 4.0.0; 1.1.0 2.1.0 3.1.0 4.1.0; 0.1.0 2.2.0")
	tells(t, terms(1, of("0: 1 1; 1:; 1: a")), "a", "0.0.0 0.1.0 0.2.0 1.0.0 2.0.0; 0.1.0 0.2.0 1.0.1 2.0.1 2.1.0") // 0 is a terminal's number, and 1 isn't
}

// P18.1, the fourth sentence: what is whole at a later place than it began lets on what waits for its nonterminal where it began, and nothing else.
func TestWholeLater(t *testing.T) {
	tells(t, of("0: 1 b; 1: a 1; 1: a"), "aab", "0.0.0 1.0.0 2.0.0; 0.1.0 1.0.1 1.1.0 2.0.1 2.1.0; 0.1.0 1.0.2 1.1.1 1.2.0 2.0.2 2.1.1; 0.2.0")
	tells(t, of("0: a 1 2; 1: c; 2: c"), "acc", "0.0.0; 0.1.0 1.0.1; 0.2.0 1.1.1 2.0.2; 0.3.0 2.1.2")
	tells(t, of("0: 1 2; 0: 2 1; 1: a; 2: a b"), "ab", "0.0.0 1.0.0 2.0.0 3.0.0; 0.1.0 2.1.0 3.0.1 3.1.0; 1.1.0 2.0.2 3.2.0")
	tells(t, of("0: a 1; 0: 1 b; 1: a; 1: b"), "ab", "0.0.0 1.0.0 2.0.0 3.0.0; 0.1.0 1.1.0 2.0.1 2.1.0 3.0.1; 0.2.0 1.2.0 3.1.1")
	tells(t, of("0: 1 c; 1: a 2 b; 2: a 1; 2: a"), "aaaabbc", "0.0.0 1.0.0; 1.1.0 2.0.1 3.0.1; 1.0.2 1.2.0 2.1.1 3.1.1; 1.1.2 2.0.3 3.0.3; 1.0.4 1.2.2 2.1.3 3.1.3; 1.2.0 1.3.2 2.2.1; 0.1.0 1.3.0; 0.2.0")
	tells(t, of("0: 1; 1: 2 b; 2: a a a"), "aaab", "0.0.0 1.0.0 2.0.0; 2.1.0; 2.2.0; 1.1.0 2.3.0; 0.1.0 1.2.0")
	tells(t, of("0: 1 1; 1: a; 1: a b"), "aba", "0.0.0 1.0.0 2.0.0; 0.1.0 1.0.1 1.1.0 2.0.1 2.1.0; 0.1.0 1.0.2 2.0.2 2.2.0; 0.2.0 1.1.2 2.1.2")
	for many := 1; many <= api.MostRight; many++ { // of so many tokens
		g := of("0: 1 b; 1:" + as(" a", many))
		want := make([][]api.Item, many+2)
		want[0] = []api.Item{item(0, 0, 0)}
		for at := range many + 1 {
			want[at] = append(want[at], item(1, at, 0))
		}
		want[many] = slices.Insert(want[many], 0, item(0, 1, 0))
		want[many+1] = []api.Item{item(0, 2, 0)}
		holds(t, g, letters(as("a", many)+"b"), want)
	}
}

// P18.1, the fourth sentence: what is whole at the place at which it began.
func TestWholeHere(t *testing.T) {
	tells(t, of("0: 1 a; 1:"), "a", "0.0.0 0.1.0 1.0.0; 0.2.0")
	tells(t, of("0: a 1; 1:"), "a", "0.0.0; 0.1.0 0.2.0 1.0.1")
	tells(t, of("0: a 1 b 1 c; 1:"), "abc", "0.0.0; 0.1.0 0.2.0 1.0.1; 0.3.0 0.4.0 1.0.2; 0.5.0")
	tells(t, of("0: 1; 1: 2; 2: 3; 3:"), "", "0.0.0 0.1.0 1.0.0 1.1.0 2.0.0 2.1.0 3.0.0")
	tells(t, of("3:; 2: 3; 1: 2; 0: 1"), "", "0.0.0 1.0.0 1.1.0 2.0.0 2.1.0 3.0.0 3.1.0")
	tells(t, of("0: a 0 b; 0: 1; 1:"), "a", "0.0.0 1.0.0 1.1.0 2.0.0; 0.0.1 0.1.0 0.2.0 1.0.1 1.1.1 2.0.1")
}

// P18.1, the fourth sentence: what waits for a nonterminal of which nothing comes may come into the set only behind what is whole of it.
func TestWaitsBehindWhole(t *testing.T) {
	tells(t, of("0: 1 1; 1:"), "", "0.0.0 0.1.0 0.2.0 1.0.0")
	tells(t, of("0: 1 2; 1:; 2: 1 c"), "c", "0.0.0 0.1.0 1.0.0 2.0.0 2.1.0; 0.2.0 2.2.0")
	tells(t, of("0: 1 2 1; 1: 2; 2:"), "", "0.0.0 0.1.0 0.2.0 0.3.0 1.0.0 1.1.0 2.0.0")
	tells(t, of("0: 1 2; 2: 3 1; 3: 1 1; 1:"), "", "0.0.0 0.1.0 0.2.0 1.0.0 1.1.0 1.2.0 2.0.0 2.1.0 2.2.0 3.0.0")
	tells(t, of("0: 1 b 1 2; 1:; 1: a; 2: 1 1; 2: c"), "b", "0.0.0 0.1.0 1.0.0 2.0.0; 0.2.0 0.3.0 0.4.0 1.0.1 2.0.1 3.0.1 3.1.1 3.2.1 4.0.1")
	tells(t, of("0: 2 3; 2: 1 1; 3: 2 1 d; 1: 4; 4:"), "d", "0.0.0 0.1.0 1.0.0 1.1.0 1.2.0 2.0.0 2.1.0 2.2.0 3.0.0 3.1.0 4.0.0; 0.2.0 2.3.0")
	tells(t, of("0: a 2 1; 1:; 2: b 1; 2: b 1 1"), "ab", "0.0.0; 0.1.0 2.0.1 3.0.1; 0.2.0 0.3.0 1.0.2 2.1.1 2.2.1 3.1.1 3.2.1 3.3.1")
	for many := 1; many < api.MostNons; many++ { // so many nonterminals, of each of which nothing comes, by those of which it was known ahead
		text := "0: " + strconv.Itoa(many) + ";" + strconv.Itoa(many) + ":;"
		for non := many - 1; non > 0; non-- {
			text = "0:" + as(" "+strconv.Itoa(many), min(many-non, 6)) + " " + strconv.Itoa(non) + ";" + strconv.Itoa(non) + ": " + strconv.Itoa(non+1) + " " + strconv.Itoa(many) + ";" + text
		}
		works(t, of(text), nil)
		works(t, of(text+"0: a 0"), letters("aa"))
	}
}

// P18.1, the fourth sentence: several of which nothing comes, side by side, at the left, in the middle and at the right of others.
func TestNothingSideBySide(t *testing.T) {
	tells(t, of("0: 1 2; 1:; 2:"), "a", "0.0.0 0.1.0 0.2.0 1.0.0 2.0.0;")
	tells(t, of("0: 1 2 a; 1:; 2:"), "a", "0.0.0 0.1.0 0.2.0 1.0.0 2.0.0; 0.3.0")
	tells(t, of("0: a 1 2; 1:; 2:"), "a", "0.0.0; 0.1.0 0.2.0 0.3.0 1.0.1 2.0.1")
	tells(t, of("0: a 1 2 b; 1:; 2:"), "ab", "0.0.0; 0.1.0 0.2.0 0.3.0 1.0.1 2.0.1; 0.4.0")
	tells(t, of("0: 1 2 a 2 1 b 1 2; 1:; 2:"), "ab", "0.0.0 0.1.0 0.2.0 1.0.0 2.0.0; 0.3.0 0.4.0 0.5.0 1.0.1 2.0.1; 0.6.0 0.7.0 0.8.0 1.0.2 2.0.2")
	tells(t, of("0: 1 2 1; 1: a; 1:; 2: b; 2:"), "a", "0.0.0 0.1.0 0.2.0 0.3.0 1.0.0 2.0.0 3.0.0 4.0.0; 0.1.0 0.2.0 0.3.0 1.0.1 1.1.0 2.0.1 3.0.1 4.0.1")
	tells(t, of("0: 1 c 2; 1: a; 1:; 2: b; 2:"), "c", "0.0.0 0.1.0 1.0.0 2.0.0; 0.2.0 0.3.0 3.0.1 4.0.1")
	tells(t, of("0: 1 2 3 a; 1: 2 2; 2: 3 3; 3:"), "a", "0.0.0 0.1.0 0.2.0 0.3.0 1.0.0 1.1.0 1.2.0 2.0.0 2.1.0 2.2.0 3.0.0; 0.4.0")
	for place := range api.MostRight { // all others come to nothing
		symbols := slices.Repeat([]string{"1"}, api.MostRight)
		symbols[place] = "2"
		for _, w := range []string{"", "a", "b", "ab", "aab", "abb", "c"} {
			works(t, of("0: "+strings.Join(symbols, " ")+"; 1:; 2: a 2; 2: b"), letters(w))
			works(t, of("0: "+strings.Join(symbols, " ")+"; 1:; 1: c; 2: a 2; 2: b; 2:"), letters(w))
		}
		symbols[place] = "c"
		g := of("0: " + strings.Join(symbols, " ") + "; 1:")
		want := make([][]api.Item, 3)
		for dot := range api.MostRight + 1 {
			at := 0
			if dot > place {
				at = 1
			}
			want[at] = append(want[at], item(0, dot, 0))
		}
		if place > 0 {
			want[0] = append(want[0], item(1, 0, 0))
		}
		if place < api.MostRight-1 {
			want[1] = append(want[1], item(1, 0, 1))
		}
		holds(t, g, letters("cc"), want)
	}
}

// P18.1: an item that several ways lead to stands there once.
func TestOnce(t *testing.T) {
	tells(t, of("0: 1; 0: 1; 1: a"), "a", "0.0.0 1.0.0 2.0.0; 0.1.0 1.1.0 2.1.0")
	tells(t, of("0: 1 1; 1: a; 1: a a"), "aaa", "0.0.0 1.0.0 2.0.0; 0.1.0 1.0.1 1.1.0 2.0.1 2.1.0; 0.1.0 0.2.0 1.0.2 1.1.1 2.0.2 2.1.1 2.2.0; 0.2.0 1.1.2 2.1.2 2.2.1")
	tells(t, of("0: 1 b; 1: 2; 1: 3; 2: a; 3: a"), "ab", "0.0.0 1.0.0 2.0.0 3.0.0 4.0.0; 0.1.0 1.1.0 2.1.0 3.1.0 4.1.0; 0.2.0")
	tells(t, of("0: 1 1 1; 1:; 1: 2; 2:"), "", "0.0.0 0.1.0 0.2.0 0.3.0 1.0.0 2.0.0 2.1.0 3.0.0")
	tells(t, of("0: 1; 1: a; 1: a; 1: a"), "a", "0.0.0 1.0.0 2.0.0 3.0.0; 0.1.0 1.1.0 2.1.0 3.1.0")
	tells(t, of("0: a 0 0; 0: b; 0:"), "ab", "0.0.0 1.0.0 2.0.0; 0.0.1 0.1.0 0.2.0 0.3.0 1.0.1 2.0.1; 0.0.2 0.2.0 0.3.0 1.0.2 1.1.1 2.0.2")
	for many := 1; many < api.MostProds; many++ { // productions that all are the same
		g := of("0: 1 b;" + as("1: a;", many))
		want := [][]api.Item{{item(0, 0, 0)}, {item(0, 1, 0)}, {item(0, 2, 0)}}
		for prod := 1; prod <= many; prod++ {
			want[0] = append(want[0], item(prod, 0, 0))
			want[1] = append(want[1], item(prod, 1, 0))
		}
		holds(t, g, letters("ab"), want)
	}
}

// P18.1: From is the place at which the item's production began, also where the same one begins at several places, and where several of these stand in one set.
func TestFrom(t *testing.T) {
	tells(t, of("0: 1 b 1; 1: a"), "aba", "0.0.0 1.0.0; 0.1.0 1.1.0; 0.2.0 1.0.2; 0.3.0 1.1.2")
	tells(t, of("0: a 0; 0: a"), "aaa", "0.0.0 1.0.0; 0.0.1 0.1.0 1.0.1 1.1.0; 0.0.2 0.1.1 0.2.0 1.0.2 1.1.1; 0.0.3 0.1.2 0.2.0 0.2.1 1.0.3 1.1.2")
	tells(t, of("0: 1 1 1; 1: a b"), "ababab", "0.0.0 1.0.0; 1.1.0; 0.1.0 1.0.2 1.2.0; 1.1.2; 0.2.0 1.0.4 1.2.2; 1.1.4; 0.3.0 1.2.4")
	tells(t, of("0: 1 1; 1: a; 1: a 1"), "aa", "0.0.0 1.0.0 2.0.0; 0.1.0 1.0.1 1.1.0 2.0.1 2.1.0; 0.1.0 0.2.0 1.0.2 1.1.1 2.0.2 2.1.1 2.2.0")
	tells(t, of("0: a 1 c; 1: b; 1: b b"), "abbc", "0.0.0; 0.1.0 1.0.1 2.0.1; 0.2.0 1.1.1 2.1.1; 0.2.0 2.2.1; 0.3.0")
	for at := range api.MostWord { // one that begins behind so many tokens
		w := letters(as("a", at) + "b")
		l := chart.Sets(of("0: a 0; 0: 1; 1: b"), w)
		works(t, of("0: a 0; 0: 1; 1: b"), w)
		if !slices.Contains(l[at+1], item(2, 1, at)) || !slices.Contains(l[at+1], item(1, 1, at)) {
			t.Errorf("of %v: at its end stand %v", w, l[at+1])
		}
	}
}

// P18.1: productions of no symbols, of terminals alone, and of MostRight symbols.
func TestSizes(t *testing.T) {
	tells(t, of("0:"), "", "0.0.0")
	tells(t, of("0:; 0:"), "a", "0.0.0 1.0.0;")
	tells(t, of("0: a b; 0: a; 0:; 0: a b c"), "abc", "0.0.0 1.0.0 2.0.0 3.0.0; 0.1.0 1.1.0 3.1.0; 0.2.0 3.2.0; 3.3.0")
	tells(t, of("0: a b a"), "abab", "0.0.0; 0.1.0; 0.2.0; 0.3.0;")
	tells(t, of("0: a b c d e f g h"), "abcdefgh", "0.0.0; 0.1.0; 0.2.0; 0.3.0; 0.4.0; 0.5.0; 0.6.0; 0.7.0; 0.8.0")
	tells(t, of("0: a b c d e f g h"), "abcdefga", "0.0.0; 0.1.0; 0.2.0; 0.3.0; 0.4.0; 0.5.0; 0.6.0; 0.7.0;")
	one, some := make([][]api.Item, api.MostRight+2), make([][]api.Item, api.MostRight+2)
	for at := range api.MostRight + 1 {
		one[at] = []api.Item{item(0, at, 0)}
		for dot := at; dot <= api.MostRight; dot++ {
			some[at] = append(some[at], item(0, dot, 0))
		}
		if at < api.MostRight {
			one[at] = append(one[at], item(1, 0, at))
			some[at] = append(some[at], item(1, 0, at))
		}
		if at > 0 {
			one[at] = append(one[at], item(1, 1, at-1))
			some[at] = append(some[at], item(1, 1, at-1))
		}
		if at < api.MostRight {
			some[at] = append(some[at], item(2, 0, at))
		}
	}
	w := letters(as("a", api.MostRight+1))
	holds(t, of("0: 1 1 1 1 1 1 1 1; 1: a"), w, one)
	holds(t, of("0: 1 1 1 1 1 1 1 1; 1: a; 1:"), w, some)
}

// P18.1: nonterminals that stand for each other, at whatever number and in whatever order of productions.
func TestForEachOther(t *testing.T) {
	tells(t, of("0: 1; 1: 2; 2: a"), "a", "0.0.0 1.0.0 2.0.0; 0.1.0 1.1.0 2.1.0")
	tells(t, of("2: a; 1: 2; 0: 1"), "a", "0.0.0 1.0.0 2.0.0; 0.1.0 1.1.0 2.1.0")
	tells(t, from(2, of("2: 1; 1: 0; 0: a b")), "ab", "0.0.0 1.0.0 2.0.0; 2.1.0; 0.1.0 1.1.0 2.2.0")
	tells(t, from(1, of("1: 2; 2: 0; 0: a; 0:; 1: b")), "b", "0.0.0 0.1.0 1.0.0 1.1.0 2.0.0 3.0.0 4.0.0; 4.1.0")
	tells(t, of("0: 1; 0: a; 1: b 0; 1: c"), "ba", "0.0.0 1.0.0 2.0.0 3.0.0; 0.0.1 1.0.1 2.0.1 2.1.0 3.0.1; 0.1.0 1.1.1 2.2.0")
	for _, order := range []func(text []string){func([]string) {}, slices.Reverse[[]string]} {
		var text []string
		for i := range last {
			text = append(text, strconv.Itoa(i)+": "+strconv.Itoa(i+1))
		}
		text = append(text, strconv.Itoa(last)+": a")
		order(text)
		want := make([][]api.Item, 2)
		for prod := range api.MostNons {
			want[0] = append(want[0], item(prod, 0, 0))
			want[1] = append(want[1], item(prod, 1, 0))
		}
		holds(t, grammar(api.MostNons, strings.Join(text, ";")), letters("a"), want)
	}
}

// P18.1: as many nonterminals as there may be, each of which is asked for behind a token of its own number, or of another one.
func TestMostNons(t *testing.T) {
	text := ""
	for i := 1; i < api.MostNons; i++ { // a place, and then a letter
		text += "0: " + string(rune('a'+i%5)) + " " + string(rune('a'+i/5)) + " " + strconv.Itoa(i) + ";" + strconv.Itoa(i) + ": p;"
	}
	g := grammar(api.MostNons, text)
	for i := 1; i < api.MostNons; i++ {
		prod := 2 * (i - 1)
		w := []int{i % 5, i / 5, 15}
		l := chart.Sets(g, w)
		works(t, g, w)
		if want := []api.Item{item(prod, 2, 0), item(prod+1, 0, 2)}; !slices.Equal(l[2], want) {
			t.Errorf("of %v: %v, not %v", w, l[2], want)
		}
		if want := []api.Item{item(prod, 3, 0), item(prod+1, 1, 2)}; !slices.Equal(l[3], want) {
			t.Errorf("of %v: %v, not %v", w, l[3], want)
		}
	}
	for start := range api.MostNons { // a ring: each in turn, till the word ends
		g := from(start, grammar(api.MostNons, ring()+strconv.Itoa(start)+": b"))
		works(t, g, letters(as("a", api.MostWord)))
		works(t, g, letters(as("a", api.MostWord-1)+"b"))
	}
}

// P18.1: as many productions as there may be, each of which tells something that no other one does.
func TestMostProds(t *testing.T) {
	g := api.Grammar{Terms: api.MostTerms, Nons: 1}
	want := make([][]api.Item, 3)
	for i := range api.MostProds {
		g.Prods = append(g.Prods, api.Prod{Right: []api.Sym{{N: i % 16}, {N: i / 16}}})
		want[0] = append(want[0], item(i, 0, 0))
	}
	for a := range api.MostTerms {
		for b := range api.MostTerms {
			want[1], want[2] = nil, nil
			for i := a; i < api.MostProds; i += 16 {
				want[1] = append(want[1], item(i, 1, 0))
			}
			if 16*b+a < api.MostProds {
				want[2] = []api.Item{item(16*b+a, 2, 0)}
			}
			holds(t, g, []int{a, b}, want)
		}
	}
	for at := range api.MostProds { // at each place the one without which no word of more than a token comes
		g := of(strings.Repeat("0: 1;", api.MostProds-2) + "1: a; 1: b 0")
		g.Prods[at], g.Prods[api.MostProds-1] = g.Prods[api.MostProds-1], g.Prods[at]
		works(t, g, letters("bba"))
		works(t, g, letters("bbc"))
	}
}

// P18.1: items stand by Prod, then Dot, then From, also where they come in another order than that.
func TestOrder(t *testing.T) {
	// those that are asked for come behind those that ask
	tells(t, of("2: a; 1: 2; 0: 1"), "a", "0.0.0 1.0.0 2.0.0; 0.1.0 1.1.0 2.1.0")
	tells(t, of("1: b; 2: c; 0: a 2 1"), "acb", "2.0.0; 1.0.1 2.1.0; 0.0.2 1.1.1 2.2.0; 0.1.2 2.3.0")
	// what is asked for anew comes behind what a token let on
	tells(t, of("0: a 0; 0: b"), "aa", "0.0.0 1.0.0; 0.0.1 0.1.0 1.0.1; 0.0.2 0.1.1 1.0.2")
	// what began later is whole sooner
	tells(t, of("0: a 0; 0: b"), "aaab", "0.0.0 1.0.0; 0.0.1 0.1.0 1.0.1; 0.0.2 0.1.1 1.0.2; 0.0.3 0.1.2 1.0.3; 0.2.0 0.2.1 0.2.2 1.1.3")
	// of one production by Dot, whatever From is, and of one Dot by From
	tells(t, of("0: a 0 0; 0: b"), "aabb", "0.0.0 1.0.0; 0.0.1 0.1.0 1.0.1; 0.0.2 0.1.1 1.0.2; 0.0.3 0.2.1 1.0.3 1.1.2; 0.0.4 0.2.0 0.3.1 1.0.4 1.1.3")
	// From of two digits
	want := []api.Item{item(0, 0, 12)}
	for k := range 12 {
		want = append(want, item(0, 1, k))
	}
	for k := range 12 {
		want = append(want, item(0, 2, k))
	}
	want = append(want, item(1, 0, 12))
	g := of("0: 1 0; 0:; 1: a; 1: a 1")
	w := letters(as("a", 12))
	works(t, g, w)
	if l := chart.Sets(g, w); !slices.Equal(l[12][:len(want)], want) {
		t.Errorf("of %v: %v, not %v", w, l[12], want)
	}
	// Prod of two digits
	g = of(as("0: a;", 12))
	for at, set := range chart.Sets(g, letters("a")) {
		for prod, it := range set {
			if it != item(prod, at, 0) {
				t.Errorf("at %d: %v", at, set)
			}
		}
	}
}
