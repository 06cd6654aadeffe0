package lead_test

import (
	"slices"
	"strconv"
	"strings"
	"testing"

	"probate/api"
	"probate/gram"
	"probate/lead"
	"probate/span"
	"probate/tree"
)

const last = api.MostNons - 1

// kinds are all that may be asked.
var kinds = []int{lead.Least, lead.Greatest, lead.Begin}

// grammar is one of so many nonterminals, whose Start is 0, and of productions parted by ";": numbers are nonterminals, and letters, from a on, terminals.
func grammar(nons int, text string) api.Grammar {
	g := api.Grammar{Terms: api.MostTerms, Nons: nons}
	for _, line := range strings.Split(text, ";") {
		left, right, ok := strings.Cut(line, ":")
		if !ok {
			continue
		}
		p := api.Prod{Left: number(left)}
		for _, s := range strings.Fields(right) {
			if s[0] >= 'a' {
				p.Right = append(p.Right, api.Sym{N: int(s[0] - 'a')})
			} else {
				p.Right = append(p.Right, api.Sym{Non: true, N: number(s)})
			}
		}
		g.Prods = append(g.Prods, p)
	}
	return g
}

// of is a grammar whose nonterminals are those that productions have.
func of(text string) api.Grammar {
	nons := 0
	for strings.Contains(";"+strings.ReplaceAll(text, " ", ""), ";"+strconv.Itoa(nons)+":") {
		nons++
	}
	return grammar(nons, text)
}

// from is a grammar with another Start.
func from(start int, g api.Grammar) api.Grammar {
	g.Start = start
	return g
}

func number(text string) int {
	n, err := strconv.Atoi(strings.TrimSpace(text))
	if err != nil {
		panic(err)
	}
	return n
}

// numbers are parted by spaces.
func numbers(text string) []int {
	var l []int
	for _, one := range strings.Fields(text) {
		l = append(l, number(one))
	}
	return l
}

// letters are tokens: a is 0.
func letters(text string) []int {
	var w []int
	for _, one := range text {
		w = append(w, int(one-'a'))
	}
	return w
}

// as is a text, so many times.
func as(text string, many int) string { return strings.Repeat(text, many) }

// times is a list, so many times.
func times(many int, l ...int) []int { return slices.Repeat(l, many) }

// shorter is a list, cut where it is too long to be read.
func shorter(l []int) []int { return l[:min(len(l), 40)] }

// spoil changes all numbers of a list, and what may stand behind them.
func spoil(l []int) {
	l = l[:cap(l)]
	for i := range l {
		l[i] = -7
	}
}

// holds holds what Lead tells, and By, by the word's rows: several times the same (R4), whatever becomes of what was told (R3); the arguments stay as they were. What is told is a derivation of the word, or of one that begins with it.
func holds(t *testing.T, g api.Grammar, w []int, kind int, want []int, e api.Errno) {
	t.Helper()
	oldG, oldW, room := gram.Clone(g), slices.Clone(w), cap(w)
	for range 2 {
		l, got := lead.Lead(g, w, kind)
		if got != e || !slices.Equal(l, want) || e != api.OK && l != nil {
			t.Fatalf("Lead(%v, %v, %d): %v (%d), %v, not %v (%d), %v", g, w, kind, shorter(l), len(l), got, shorter(want), len(want), e)
		}
		spoil(l)
	}
	rows := span.Rows(g, w)
	if rows != nil {
		by(t, g, w, kind, rows, want, e)
	}
	if e == api.OK {
		derives(t, g, w, kind, want)
	}
	if !gram.Same(g, oldG) || !slices.Equal(w, oldW) || cap(w) != room {
		t.Fatalf("of %v, %v became %v, %v", oldG, oldW, g, w)
	}
}

// by holds what By tells, twice the same, and that the rows stay as they were, as does what is there behind their end.
func by(t *testing.T, g api.Grammar, w []int, kind int, rows []span.Row, want []int, e api.Errno) {
	t.Helper()
	mark := span.Row{Over: 77}
	room := append(slices.Clone(rows), mark, mark)
	old := slices.Clone(room)
	for range 2 {
		l, got := lead.By(g, w, kind, room[:len(rows)])
		if got != e || !slices.Equal(l, want) || e != api.OK && l != nil {
			t.Fatalf("By(%v, %v, %d): %v (%d), %v, not %v (%d), %v", g, w, kind, shorter(l), len(l), got, shorter(want), len(want), e)
		}
		spoil(l)
		if !slices.Equal(room, old) {
			t.Fatalf("By(%v, %v, %d): rows %v became %v", g, w, kind, old, room)
		}
	}
}

// derives holds that a list is a derivation of a word, or for Begin of one that begins with it (P17.2).
func derives(t *testing.T, g api.Grammar, w []int, kind int, l []int) {
	t.Helper()
	word, e := tree.Replay(g, l)
	if kind == lead.Begin && len(word) > len(w) {
		word = word[:len(w)]
	}
	if e != api.OK || !slices.Equal(word, w) {
		t.Fatalf("of %v, %v: %v, in kind %d, is of %v, %v", g, w, shorter(l), kind, word, e)
	}
}

// both holds the least and the greatest derivation of a word of letters, and that they are what is worked out.
func both(t *testing.T, g api.Grammar, text, least, greatest string) {
	t.Helper()
	w := letters(text)
	worked(t, g, w, lead.Least, numbers(least))
	worked(t, g, w, lead.Greatest, numbers(greatest))
}

// begins holds a derivation of a word that begins with one of letters, and that it is what is worked out.
func begins(t *testing.T, g api.Grammar, text, want string) {
	t.Helper()
	worked(t, g, letters(text), lead.Begin, numbers(want))
}

// worked holds what is told, and what is worked out of it in both ways.
func worked(t *testing.T, g api.Grammar, w []int, kind int, want []int) {
	t.Helper()
	if own, e := byParts(g, w, kind); e != api.OK || !slices.Equal(own, want) {
		t.Fatalf("of %v, %v, in kind %d: wanted is %v, but worked out %v, %v", g, w, kind, want, own, e)
	}
	if own := bySearch(g, w, kind); !slices.Equal(own, want) {
		t.Fatalf("of %v, %v, in kind %d: wanted is %v, but searched %v", g, w, kind, want, own)
	}
	holds(t, g, w, kind, want, api.OK)
}

// P17.1: the chapter's example.
func TestExample(t *testing.T) {
	non := func(n int) api.Sym { return api.Sym{Non: true, N: n} }
	g := api.Grammar{Terms: 1, Nons: 2, Prods: []api.Prod{
		{Left: 0, Right: []api.Sym{non(1), non(1)}},
		{Left: 1, Right: []api.Sym{{N: 0}}},
		{Left: 1},
	}}
	for kind, want := range [][]int{{0, 1, 2}, {0, 2, 1}} {
		if l, e := lead.Lead(g, []int{0}, kind); e != api.OK || !slices.Equal(l, want) {
			t.Errorf("Lead in kind %d: %v, %v", kind, l, e)
		}
		if l, e := lead.By(g, []int{0}, kind, span.Rows(g, []int{0})); e != api.OK || !slices.Equal(l, want) {
			t.Errorf("By in kind %d: %v, %v", kind, l, e)
		}
	}
	if lead.Least != 0 || lead.Greatest != 1 || lead.Begin != 2 {
		t.Errorf("the kinds are %d, %d, %d", lead.Least, lead.Greatest, lead.Begin)
	}
	both(t, of("0: 1 1; 1: a; 1:"), "a", "0 1 2", "0 2 1")
	if g.Terms = api.MostTerms; !gram.Same(g, of("0: 1 1; 1: a; 1:")) {
		t.Error("a grammar isn't what its text says")
	}
}

// P17.1: words of one derivation: the least one is the greatest.
func TestOneDerivation(t *testing.T) {
	for _, c := range [][3]string{
		{"0: a", "a", "0"},
		{"0: a b c d e f g h", "abcdefgh", "0"},
		{"0: b; 0: a; 0: c", "a", "1"},
		{"0: b; 0: a; 0: c", "c", "2"},
		{"0: a 0; 0: b", "aab", "0 0 1"},
		{"0: a; 0: b; 0: a 0; 0: b 0", "abba", "2 3 3 0"},
		{"0: 1 2; 1: a 1; 1:; 2: b 2; 2: c", "aabc", "0 1 1 2 3 4"},
		{"0: 1 2; 1: a 1; 1:; 2: b 2; 2: c", "c", "0 2 4"},
		{"0: a 0 b 0; 0:", "aabbab", "0 0 1 1 0 1 1"},
		{"0: 1; 1: 2; 2: 3; 3: a", "a", "0 1 2 3"},
		{"0: 2 1 2; 1: d; 1: c; 2: b; 2: a", "acb", "0 4 2 3"},
		{"0: 1 1 1; 1: 2; 2: a; 1: b", "bab", "0 3 1 2 3"},
		{"0: a b; 0: a 1; 1: c; 0: a b d", "ab", "0"},
		{"0: a b; 0: a 1; 1: c; 0: a b d", "ac", "1 2"},
		{"0: a b; 0: a 1; 1: c; 0: a b d", "abd", "3"},
	} {
		both(t, of(c[0]), c[1], c[2], c[2])
	}
	both(t, from(2, of("0: a; 1: 0 b; 2: c 1 0; 0: d")), "cdba", "2 1 3 0", "2 1 3 0")
	both(t, from(1, of("0: a 0; 0: 1 b; 1: c; 1: d 0")), "dacb", "3 0 1 2", "3 0 1 2")
}

// P17.1: words of two derivations.
func TestTwoDerivations(t *testing.T) {
	both(t, of("0: a; 0: a"), "a", "0", "1")
	both(t, of("0: a; 0: 1; 1: a"), "a", "0", "1 2")
	both(t, of("0: 1; 0: a; 1: a"), "a", "0 2", "1")
	both(t, of("0: b; 0: 1 c; 0: b c; 1: b"), "bc", "1 3", "2")
	both(t, of("0: 1 1; 1: a; 1: a a"), "aaa", "0 1 2", "0 2 1")
	both(t, of("0: 1 1; 1: a a; 1: a"), "aaa", "0 1 2", "0 2 1")
	both(t, of("0: 1 2; 1: a; 1: a b; 2: b c; 2: c"), "abc", "0 1 3", "0 2 4")
	both(t, of("0: a 0 b; 0: a 0; 0:"), "aab", "0 1 2", "1 0 2")
}

// P17.1: words of many derivations: all but the least and the greatest stand between these.
func TestManyDerivations(t *testing.T) {
	for _, c := range []struct {
		text, word, least, greatest string
		many                        int
	}{
		{"0: 1 1 1; 1: a; 1:", "a", "0 1 2 2", "0 2 2 1", 3},
		{"0: 1 1 1; 1:; 1: a", "a", "0 1 1 2", "0 2 1 1", 3},
		{"0: 1 1 1; 1: a; 1:", "aa", "0 1 1 2", "0 2 1 1", 3},
		{"0: 1 1 1; 1: a; 1: a a; 1:", "aaa", "0 1 1 1", "0 3 2 1", 7},
		{"0: a 0 0; 0: b; 0:", "aab", "0 0 1 2 2", "0 2 0 2 1", 5},
		{"0: a 0; 0: a; 0: a a", "aaaa", "0 0 0 1", "0 0 2", 2},
		{"0: a 0; 0: a a 0; 0:", "aaaaa", "0 0 0 0 0 2", "1 1 0 2", 8},
		{"0: a a 0; 0: a 0; 0:", "aaaaa", "0 0 1 2", "1 1 1 1 1 2", 8},
		{"0: a; 0: a; 0: a; 0: a; 0: b 0 0", "bbaaa", "4 4 0 0 0", "4 4 3 3 3", 64},
		{"0: 1 2 3; 1: a 1; 1:; 2: a 2; 2:; 3: a 3; 3:", "aaa", "0 1 1 1 2 4 6", "0 2 4 5 5 5 6", 10},
	} {
		both(t, of(c.text), c.word, c.least, c.greatest)
		if many := len(derivations(of(c.text), letters(c.word))); many != c.many {
			t.Errorf("of %s, %s: %d derivations, not %d", c.text, c.word, many, c.many)
		}
	}
}

// P17.1: the least and the greatest differ first at the first production, at one in the middle, at the last one.
func TestApart(t *testing.T) {
	both(t, of("0: 1 1; 0: 2 2; 1: a; 2: a"), "aa", "0 2 2", "1 3 3")
	both(t, of("0: 1 2; 0: 1 2 2; 1: a; 2: b; 2: b b; 2:"), "ab", "0 2 3", "1 2 5 3")
	both(t, of("0: 1 2 1; 1: c; 2: a; 2: 3; 3: a"), "cac", "0 1 2 1", "0 1 3 4 1")
	both(t, of("0: 1 2 1; 1: c; 2: 3; 2: a; 3: a"), "cac", "0 1 2 4 1", "0 1 3 1")
	both(t, of("0: c 1 2 c; 1: a; 1: a b; 2: b; 2:"), "cabc", "0 1 3", "0 2 4")
	both(t, of("0: 1 1 1 1; 1: a; 1: b; 1: b"), "aaab", "0 1 1 1 2", "0 1 1 1 3")
	both(t, of("0: 1 1 1 1; 1: a; 1: b; 1: b"), "abaa", "0 1 2 1 1", "0 1 3 1 1")
	both(t, of("0: 1 1 1 1; 1: a; 1: b; 1: b"), "baaa", "0 2 1 1 1", "0 3 1 1 1")
	both(t, of("0: a 0; 0: b; 0: 1; 1: b"), "aaaab", "0 0 0 0 1", "0 0 0 0 2 3")
	for apart := range 8 { // the place of the one nonterminal of which two productions tell the same
		symbols := slices.Repeat([]string{"1"}, 8)
		symbols[apart] = "2"
		want := times(9, 1)
		want[0] = 0
		least, greatest := slices.Clone(want), slices.Clone(want)
		least[1+apart], greatest[1+apart] = 2, 4
		g := of("0: " + strings.Join(symbols, " ") + "; 1: a; 2: a; 2: b; 2: a")
		worked(t, g, letters(as("a", 8)), lead.Least, least)
		worked(t, g, letters(as("a", 8)), lead.Greatest, greatest)
	}
}

// P17.1: parts that come to nothing, at the left, in the middle and at the right, and in each other.
func TestNothing(t *testing.T) {
	for _, c := range [][4]string{
		{"0: 1 a b; 1:", "ab", "0 1", "0 1"},
		{"0: a 1 b; 1:", "ab", "0 1", "0 1"},
		{"0: a b 1; 1:", "ab", "0 1", "0 1"},
		{"0: 1 a 1 b 1; 1:; 1: 2; 2:", "ab", "0 1 1 1", "0 2 3 2 3 2 3"},
		{"0: 1 2 a; 1:; 2: 1; 2: 1 1", "a", "0 1 2 1", "0 1 3 1 1"},
		{"0: a 1 2; 1: 2; 1:; 2: ", "a", "0 1 3 3", "0 2 3"},
		{"0: a 1 2 b; 1: 2; 1:; 2: ", "ab", "0 1 3 3", "0 2 3"},
		{"0: 1 2 1; 1: a; 1:; 2: b; 2:", "a", "0 1 4 2", "0 2 4 1"},
		{"0: 1 2 1; 1: a; 1:; 2: b; 2:", "b", "0 2 3 2", "0 2 3 2"},
		{"0: 1 2 1; 1: a; 1:; 2: b; 2:", "ab", "0 1 3 2", "0 1 3 2"},
		{"0: 1 2 3; 1: 2 2; 1: a; 2: 3 3; 2: a; 3:", "a", "0 1 3 5 5 3 5 5 4 5", "0 2 3 5 5 5"},
		{"0: 1 1 1 1 1 1 1 1; 1: a; 1:", "aaa", "0 1 1 1 2 2 2 2 2", "0 2 2 2 2 2 1 1 1"},
		{"0: 1 1 1 1 1 1 1 1; 1:; 1: a", "aaa", "0 1 1 1 1 1 2 2 2", "0 2 2 2 1 1 1 1 1"},
	} {
		both(t, of(c[0]), c[1], c[2], c[3])
	}
}

// P17.1, R6: of the empty word, be it nil or an empty list.
func TestEmptyWord(t *testing.T) {
	for _, c := range [][3]string{
		{"0:", "0", "0"},
		{"0: a; 0:; 0: b", "1", "1"},
		{"0:; 0:", "0", "1"},
		{"0: 1; 0:; 1:", "0 2", "1"},
		{"0:; 0: 1; 1: a; 1:", "0", "1 3"},
		{"0: 1 2; 1:; 2: 1; 2:; 2: 1 1", "0 1 2 1", "0 1 4 1 1"},
		{"0: 1 1 1 1 1 1 1 1; 1:; 1: 2; 2:", "0 1 1 1 1 1 1 1 1", "0 2 3 2 3 2 3 2 3 2 3 2 3 2 3 2 3"},
	} {
		for _, w := range [][]int{nil, {}, make([]int, 0, 3), letters("ab")[2:]} {
			worked(t, of(c[0]), w, lead.Least, numbers(c[1]))
			worked(t, of(c[0]), w, lead.Greatest, numbers(c[2]))
		}
	}
	g := api.Grammar{Nons: 1, Prods: []api.Prod{{}}} // no terminals at all
	for _, kind := range kinds {
		worked(t, g, nil, kind, []int{0})
		worked(t, g, []int{}, kind, []int{0})
	}
}

// P17.1: words of just MostWord tokens.
func TestMostWord(t *testing.T) {
	const many = api.MostWord
	for _, c := range []struct {
		text, word      string
		least, greatest []int
	}{
		{"0: a 0; 0:", as("a", many), append(times(many, 0), 1), append(times(many, 0), 1)},
		{"0:; 0: a 0", as("a", many), append(times(many, 1), 0), append(times(many, 1), 0)},
		{"0: a 0; 0: b", as("a", many-1) + "b", append(times(many-1, 0), 1), append(times(many-1, 0), 1)},
		{"0: a 0 b; 0:", as("a", many/2) + as("b", many/2), append(times(many/2, 0), 1), append(times(many/2, 0), 1)},
		{"0: a 0; 0: a a 0; 0:", as("a", many), append(times(many, 0), 2), append(times(many/2, 1), 2)},
		{"0: a 0; 0: a a a a a a a 0; 0:", as("a", many), append(times(many, 0), 2), append(times(many/7, 1), 0, 0, 0, 2)},
		{"0: 1 1 1; 1: a b c d e f g h", as("abcdefgh", 3), numbers("0 1 1 1"), numbers("0 1 1 1")},
		{"0: 1 1 1; 1: 2 2; 2: a; 2: a a 2; 2: a 2", as("a", many), slices.Concat(numbers("0 1 2 2 1 2 2 1 2"), times(9, 3), []int{2}), slices.Concat([]int{0, 1}, times(18, 4), numbers("2 2 1 2 2 1 2 2"))},
	} {
		g, w := of(c.text), letters(c.word)
		if len(w) != many {
			t.Fatalf("%s has %d tokens", c.word, len(w))
		}
		for kind, want := range [][]int{c.least, c.greatest} {
			if own, e := byParts(g, w, kind); e != api.OK || !slices.Equal(own, want) {
				t.Fatalf("of %s, %s: wanted is %v, but worked out %v, %v", c.text, c.word, want, own, e)
			}
			holds(t, g, w, kind, want, api.OK)
		}
	}
}

// P17.1: where several beginnings of the word come of a nonterminal, the least production at the left makes what is at its right another one.
func TestSeveralBeginnings(t *testing.T) {
	both(t, of("0: 1 2; 1: a; 1: a a; 2: a; 2: a a"), "aaa", "0 1 4", "0 2 3")
	both(t, of("0: 1 2; 1: a a; 1: a; 2: a; 2: a a"), "aaa", "0 1 3", "0 2 4")
	both(t, of("0: 1 2; 1: a; 1: a a; 2: a; 2: a a"), "aa", "0 1 3", "0 1 3")
	both(t, of("0: 1 2; 1: a; 1: a a; 2: a; 2: a a"), "aaaa", "0 2 4", "0 2 4")
	both(t, of("0: 1 2 3; 1: a 1; 1:; 2: a 2; 2:; 3: a 3; 3:"), "aa", "0 1 1 2 4 6", "0 2 4 5 5 6")
	both(t, of("0: 1 2 3; 1:; 1: a 1; 2: a 2; 2:; 3: a 3; 3:"), "aa", "0 1 3 3 4 6", "0 2 2 1 4 6")
	both(t, of("0: 1 2 3; 1:; 1: a 1; 2:; 2: a 2; 3: a 3; 3:"), "aa", "0 1 3 5 5 6", "0 2 2 1 3 6")
	both(t, of("0: 1 b 1; 1: a 1; 1: b 1; 1:"), "abab", "0 1 2 1 3 3", "0 1 3 1 2 3")
	both(t, of("0: 1 0; 0:; 1: a; 1: a b; 1: b a; 1: b"), "abab", "0 2 0 4 0 5 1", "0 3 0 3 1")
	both(t, of("0: 1 0; 0: ; 1: a; 1: a b; 1: a b c; 1: b c; 1: c d; 1: d; 1: b; 1: c"), "abcd", "0 2 0 5 0 7 1", "0 4 0 7 1")
	both(t, of("0: 1 2 c; 1: a; 1: a b; 2: b; 2:; 0: 1 c"), "abc", "0 1 3", "5 2")
	both(t, of("0: 1 1 1 1; 1: a; 1: a a; 1: a a a; 1:"), "aaaaa", "0 1 1 1 2", "0 4 4 3 2")
	both(t, of("0: 1 1 1 1; 1:; 1: a a; 1: a a a; 1: a"), "aaaaa", "0 1 1 2 3", "0 4 4 4 2")
}
