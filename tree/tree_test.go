package tree_test

import (
	"slices"
	"strconv"
	"strings"
	"testing"

	"probate/api"
	"probate/gram"
	"probate/tree"
)

const last = api.MostNons - 1

// grammar is one of so many nonterminals, whose Start is 0, and of productions parted by ";": numbers are nonterminals, and letters, from a on, terminals.
func grammar(nons int, text string) api.Grammar {
	g := api.Grammar{Terms: api.MostTerms, Nons: nons}
	for _, line := range strings.Split(text, ";") {
		left, right, ok := strings.Cut(line, ":")
		if !ok {
			continue
		}
		p := api.Prod{Left: number(left)}
		for _, s := range strings.Fields(right) {
			if s[0] >= 'a' {
				p.Right = append(p.Right, api.Sym{N: int(s[0] - 'a')})
			} else {
				p.Right = append(p.Right, api.Sym{Non: true, N: number(s)})
			}
		}
		g.Prods = append(g.Prods, p)
	}
	return g
}

// from is a grammar with another Start.
func from(start int, g api.Grammar) api.Grammar {
	g.Start = start
	return g
}

func number(text string) int {
	n, err := strconv.Atoi(strings.TrimSpace(text))
	if err != nil {
		panic(err)
	}
	return n
}

// numbers are parted by spaces.
func numbers(text string) []int {
	var l []int
	for _, one := range strings.Fields(text) {
		l = append(l, number(one))
	}
	return l
}

// letters are tokens: a is 0.
func letters(text string) []int {
	var w []int
	for _, one := range text {
		w = append(w, int(one-'a'))
	}
	return w
}

// times is a list, so many times.
func times(many int, l ...int) []int { return slices.Repeat(l, many) }

// tells holds that a list is a derivation, and its word, as asks does.
func tells(t *testing.T, g api.Grammar, l []int, word string) {
	t.Helper()
	asks(t, g, l, letters(word), api.OK)
}

// fails holds that a list is none, and that neither a word nor nodes stand beside the error.
func fails(t *testing.T, g api.Grammar, l []int, e api.Errno) {
	t.Helper()
	asks(t, g, l, nil, e)
}

// asks holds what Replay tells, and of Nodes the error and how many there are: several times the same (R4), whatever becomes of what was told (R3), and the arguments stay as they were.
func asks(t *testing.T, g api.Grammar, l, want []int, e api.Errno) {
	t.Helper()
	oldG, oldL, room := gram.Clone(g), slices.Clone(l), cap(l)
	for range 3 {
		w, got := tree.Replay(g, l)
		if got != e || !slices.Equal(w, want) {
			t.Fatalf("Replay(%v, %v): %v, %v, not %v, %v", g, shorter(l), shorter(w), got, shorter(want), e)
		}
		nodes, got := tree.Nodes(g, l)
		if got != e || e == api.OK && len(nodes) != len(l) || e != api.OK && len(nodes) != 0 {
			t.Fatalf("Nodes(%v, %v): %d nodes, %v, not %v", g, shorter(l), len(nodes), got, e)
		}
		spoil(w)
		spoilNodes(nodes)
		if !gram.Same(g, oldG) || !slices.Equal(l, oldL) || cap(l) != room {
			t.Fatalf("of %v, %v became %v, %v", oldG, shorter(oldL), g, shorter(l))
		}
	}
}

// shorter is a list that can be told.
func shorter(l []int) []int { return l[:min(len(l), 40)] }

// spoil changes all of a list, and what may stand behind it.
func spoil(l []int) {
	l = l[:cap(l)]
	for i := range l {
		l[i] = -77 - i
	}
}

func spoilNodes(l []tree.Node) {
	l = l[:cap(l)]
	for i := range l {
		spoil(l[i].At)
		l[i] = tree.Node{Prod: -7, At: []int{-8}}
	}
}

// P15.1: the chapter's example.
func TestExample(t *testing.T) {
	g := api.Grammar{Terms: 2, Nons: 2, Prods: []api.Prod{
		{Left: 0, Right: []api.Sym{{N: 0}, {Non: true, N: 1}, {N: 1}}},
		{Left: 1},
	}}
	w, e := tree.Replay(g, []int{0, 1})
	if e != api.OK || !slices.Equal(w, []int{0, 1}) {
		t.Errorf("Replay: %v, %v", w, e)
	}
	l, e := tree.Nodes(g, []int{0, 1})
	if e != api.OK || len(l) != 2 || l[0].Prod != 0 || l[1].Prod != 1 {
		t.Fatalf("Nodes: %v, %v", l, e)
	}
	if !slices.Equal(l[0].At, []int{0, 1, 1, 2}) || !slices.Equal(l[1].At, []int{1}) {
		t.Errorf("Nodes: %v", l)
	}
	if g.Terms = api.MostTerms; !gram.Same(g, grammar(2, "0: a 1 b; 1:")) {
		t.Error("a grammar isn't what its text says")
	}
}

// P15.1: a derivation of one production: of no symbols, and of terminals alone.
func TestReplayOne(t *testing.T) {
	tells(t, grammar(1, "0:"), numbers("0"), "")
	tells(t, grammar(1, "0: a"), numbers("0"), "a")
	tells(t, grammar(1, "0: b a b"), numbers("0"), "bab")
	tells(t, grammar(1, "0: a; 0: p o n m d c b a; 0:"), numbers("1"), "ponmdcba")
	tells(t, grammar(1, "0: a; 0: p o n m d c b a; 0:"), numbers("2"), "")
	tells(t, grammar(1, strings.Repeat("0: a;", last)+"0: b"), []int{last}, "b")
	tells(t, api.Grammar{Nons: 1, Prods: []api.Prod{{}}}, numbers("0"), "")
	tells(t, api.Grammar{Nons: 1, Prods: []api.Prod{{Right: []api.Sym{}}}}, numbers("0"), "")
	for i := range api.MostProds {
		tells(t, api.Grammar{Nons: 1, Prods: make([]api.Prod, api.MostProds)}, []int{i}, "")
	}
	for i := range api.MostTerms {
		g := api.Grammar{Terms: i + 1, Nons: 1, Prods: []api.Prod{{Right: []api.Sym{{N: i}}}}}
		tells(t, g, numbers("0"), string(rune('a'+i)))
	}
}

// P15.1: nonterminals at the left, in the middle, at the right, and side by side.
func TestReplayPlaces(t *testing.T) {
	tells(t, grammar(2, "0: 1 a; 1: b"), numbers("0 1"), "ba")
	tells(t, grammar(2, "0: a 1 b; 1: c"), numbers("0 1"), "acb")
	tells(t, grammar(2, "0: a 1; 1: b"), numbers("0 1"), "ab")
	tells(t, grammar(2, "0: 1; 1: b"), numbers("0 1"), "b")
	tells(t, grammar(2, "0: 1 1; 1: a; 1: b"), numbers("0 1 2"), "ab")
	tells(t, grammar(2, "0: 1 1; 1: a; 1: b"), numbers("0 2 1"), "ba")
	tells(t, grammar(3, "0: 1 2; 1: a; 2: b"), numbers("0 1 2"), "ab")
	tells(t, grammar(3, "0: 2 1; 1: a; 2: b"), numbers("0 2 1"), "ba")
	tells(t, grammar(3, "0: 1 c 2 d 1; 1: a; 2: b"), numbers("0 1 2 1"), "acbda")
	tells(t, grammar(3, "0: 1 c 2 d 1; 1:; 2:"), numbers("0 1 2 1"), "cd")
	tells(t, grammar(3, "0: 1 2 1; 1:; 2:"), numbers("0 1 2 1"), "")
	for place := range api.MostRight {
		ahead, behind := strings.Repeat(" a", place), strings.Repeat(" b", api.MostRight-1-place)
		g := grammar(2, "0:"+ahead+" 1"+behind+"; 1: c d; 1:")
		tells(t, g, numbers("0 1"), strings.Repeat("a", place)+"cd"+strings.Repeat("b", api.MostRight-1-place))
		tells(t, g, numbers("0 2"), strings.Repeat("a", place)+strings.Repeat("b", api.MostRight-1-place))
	}
}

// P15.1: the leftmost one is a symbol of the production ahead, or one that stands behind it since long.
func TestReplayLeftmost(t *testing.T) {
	g := grammar(3, "0: 1 2; 1: a 1 c; 1: b; 2: 1 d; 2: 2 0; 2:")
	tells(t, g, numbers("0 2 5"), "b")
	tells(t, g, numbers("0 1 2 5"), "abc")
	tells(t, g, numbers("0 1 1 1 2 5"), "aaabccc")
	tells(t, g, numbers("0 1 1 1 2 3 2"), "aaabcccbd")
	tells(t, g, numbers("0 2 4 5 0 2 5"), "bb")
	tells(t, g, numbers("0 2 4 3 1 2 0 1 2 3 2"), "b"+"abcd"+"abc"+"bd")
	tells(t, g, numbers("0 2 4 4 5 0 2 5 0 2 3 2"), "bbbbd")
	g = grammar(4, "0: 1 a 3; 1: 2 b 3; 2: 3 c 3; 3:; 3: d")
	tells(t, g, numbers("0 1 2 3 3 3 3"), "cba")
	tells(t, g, numbers("0 1 2 4 3 3 3"), "dcba")
	tells(t, g, numbers("0 1 2 3 4 3 3"), "cdba")
	tells(t, g, numbers("0 1 2 3 3 4 3"), "cbda")
	tells(t, g, numbers("0 1 2 3 3 3 4"), "cbad")
	text, l, word := "", []int{}, "" // each leads to the next one, and to the last one, which waits for its turn
	for i := range last {
		text += strconv.Itoa(i) + ": " + strconv.Itoa(i+1) + " a " + strconv.Itoa(last) + ";"
		l, word = append(l, i), word+"ab"
	}
	g = grammar(api.MostNons, text+strconv.Itoa(last)+": b")
	tells(t, g, append(l, times(last+1, last)...), "b"+word)
}

// P15.1: a Start that isn't 0, and a production of it that isn't the first.
func TestReplayStart(t *testing.T) {
	g := grammar(3, "0: a 1; 1: b 2; 2: c 0; 0: d; 1: d; 2: d")
	tells(t, g, numbers("0 1 2 3"), "abcd")
	tells(t, from(1, g), numbers("1 2 0 4"), "bcad")
	tells(t, from(2, g), numbers("2 0 1 5"), "cabd")
	tells(t, from(2, g), numbers("5"), "d")
	fails(t, from(2, g), numbers("3"), api.ErrForm)
	for start := range api.MostNons {
		g := api.Grammar{Terms: 1, Nons: api.MostNons, Start: start}
		for i := range api.MostNons {
			g.Prods = append(g.Prods, api.Prod{Left: api.MostNons - 1 - i, Right: []api.Sym{{N: 0}}})
		}
		for i := range api.MostNons {
			if i == api.MostNons-1-start {
				tells(t, g, []int{i}, "a")
			} else {
				fails(t, g, []int{i}, api.ErrForm)
			}
		}
	}
}

// P15.1: one and the same production many times.
func TestReplaySame(t *testing.T) {
	for many := range 100 {
		tells(t, grammar(1, "0: a 0; 0: b"), append(times(many, 0), 1), strings.Repeat("a", many)+"b")
		tells(t, grammar(1, "0: 0 a; 0: b"), append(times(many, 0), 1), "b"+strings.Repeat("a", many))
		tells(t, grammar(1, "0: a 0 b; 0:"), append(times(many, 0), 1), strings.Repeat("a", many)+strings.Repeat("b", many))
		tells(t, grammar(1, "0: 0 0; 0: a"), append(times(many, 0), times(many+1, 1)...), strings.Repeat("a", many+1))
		tells(t, grammar(1, "0: 0 0; 0: a"), append(times(many, 0, 1), 1), strings.Repeat("a", many+1))
	}
}

// P15.1: productions of MostRight symbols, all of them nonterminals, and of such ones in such ones.
func TestReplayMostRight(t *testing.T) {
	g := grammar(2, "0: 1 1 1 1 1 1 1 1; 1: a b c d e f g h; 1: 2 2 2 2 2 2 2 2; 2: p")
	g.Nons = 3
	tells(t, g, append(numbers("0"), times(8, 1)...), strings.Repeat("abcdefgh", 8))
	tells(t, g, append(numbers("0"), times(8, 2, 3, 3, 3, 3, 3, 3, 3, 3)...), strings.Repeat("p", 64))
	tells(t, g, append(numbers("0 1 2 3 3 3 3 3 3 3 3"), times(6, 1)...), "abcdefgh"+"pppppppp"+strings.Repeat("abcdefgh", 6))
	g = grammar(1, "0: a b c d e f g 0; 0:; 0: 0 0 0 0 0 0 0 0")
	tells(t, g, numbers("0 0 0 1"), strings.Repeat("abcdefg", 3))
	tells(t, g, append(numbers("2"), times(8, 0, 1)...), strings.Repeat("abcdefg", 8))
	tells(t, g, append(times(3, 2), times(22, 1)...), "")
}

// P15.1: derivations of just MostSteps productions, of words longer than MostWord, and of no tokens; one production less, and one more.
func TestReplayMostSteps(t *testing.T) {
	const many = api.MostSteps - 1
	for _, c := range []struct{ text, ahead, behind, end string }{ // what a step puts ahead and behind, and the last one
		{"0: a 0; 0: b", "a", "", "b"},
		{"0: 0 a; 0: b", "", "a", "b"},
		{"0: a 0 b; 0:", "a", "b", ""},
		{"0: a b c d e f g 0; 0: a b c d e f g h", "abcdefg", "", "abcdefgh"},
		{"0: 0 a b c d e f g; 0:", "", "abcdefg", ""},
		{"0: 0; 0: a", "", "", "a"},
		{"0: 0; 0:", "", "", ""},
	} {
		g := grammar(1, c.text)
		word := strings.Repeat(c.ahead, many) + c.end + strings.Repeat(c.behind, many)
		l := append(times(many, 0), 1)
		tells(t, g, l, word)
		fails(t, g, l[:many], api.ErrShort)
		fails(t, g, append(slices.Clone(l[:many]), 0), api.ErrShort)
		fails(t, g, append(slices.Clone(l[1:]), 1), api.ErrForm)
		fails(t, g, append(slices.Clone(l), 1), api.ErrBig)
	}
	g := grammar(1, "0: 0 0; 0: a; 0: 0")
	l := append(numbers("2"), append(times(999, 0), times(1000, 1)...)...)
	tells(t, g, l, strings.Repeat("a", 1000))
	l = append(times(999, 0, 1), 2, 1)
	tells(t, g, l, strings.Repeat("a", 1000))
	g = grammar(2, "0: 0 1; 0:; 1:")
	tells(t, g, slices.Concat(times(999, 0), numbers("1"), times(999, 2)), "")
	fails(t, g, slices.Concat(times(999, 0), numbers("1"), times(1000, 2)), api.ErrForm)
	fails(t, g, slices.Concat(times(1000, 0), numbers("1"), times(999, 2)), api.ErrShort)
	g = grammar(2, "0: 1 0; 0: a; 1:")
	tells(t, g, append(times(999, 0, 2), 1), "a")
}
