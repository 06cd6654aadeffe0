package chart_test

import (
	"slices"
	"strconv"
	"strings"
	"testing"

	"probate/api"
	"probate/chart"
	"probate/gram"
)

const last = api.MostNons - 1

// grammar is one of so many nonterminals, whose Start is 0, and of productions parted by ";": numbers are nonterminals, and letters, from a on, terminals.
func grammar(nons int, text string) api.Grammar {
	g := api.Grammar{Terms: api.MostTerms, Nons: nons}
	for _, line := range strings.Split(text, ";") {
		left, right, ok := strings.Cut(line, ":")
		if !ok {
			continue
		}
		p := api.Prod{Left: number(left)}
		for _, s := range strings.Fields(right) {
			if s[0] >= 'a' {
				p.Right = append(p.Right, api.Sym{N: int(s[0] - 'a')})
			} else {
				p.Right = append(p.Right, api.Sym{Non: true, N: number(s)})
			}
		}
		g.Prods = append(g.Prods, p)
	}
	return g
}

// of is a grammar whose nonterminals are those that productions have.
func of(text string) api.Grammar {
	nons := 0
	for strings.Contains(";"+strings.ReplaceAll(text, " ", ""), ";"+strconv.Itoa(nons)+":") {
		nons++
	}
	return grammar(nons, text)
}

// from is a grammar with another Start.
func from(start int, g api.Grammar) api.Grammar {
	g.Start = start
	return g
}

// terms is a grammar of so many terminals.
func terms(many int, g api.Grammar) api.Grammar {
	g.Terms = many
	return g
}

func number(text string) int {
	n, err := strconv.Atoi(strings.TrimSpace(text))
	if err != nil {
		panic(err)
	}
	return n
}

// letters are tokens: a is 0.
func letters(text string) []int {
	var w []int
	for _, one := range text {
		w = append(w, int(one-'a'))
	}
	return w
}

// as is a text, so many times.
func as(text string, many int) string { return strings.Repeat(text, many) }

// item is one by its Prod, Dot and From.
func item(prod, dot, from int) api.Item {
	return api.Item{Prod: prod, Dot: dot, From: from}
}

// setsOf are sets parted by ";", of items parted by spaces, each of which is its Prod, Dot and From, parted by points.
func setsOf(text string) [][]api.Item {
	var l [][]api.Item
	for _, line := range strings.Split(text, ";") {
		var set []api.Item
		for _, one := range strings.Fields(line) {
			parts := strings.Split(one, ".")
			set = append(set, item(number(parts[0]), number(parts[1]), number(parts[2])))
		}
		l = append(l, set)
	}
	return l
}

// same tells whether sets are the same, each in its order.
func same(a, b [][]api.Item) bool {
	return slices.EqualFunc(a, b, func(a, b []api.Item) bool { return slices.Equal(a, b) })
}

// copied are sets of their own.
func copied(l [][]api.Item) [][]api.Item {
	var c [][]api.Item
	for _, set := range l {
		c = append(c, slices.Clone(set))
	}
	return c
}

// tells holds the sets of a word of letters, by their text.
func tells(t *testing.T, g api.Grammar, w, text string) {
	t.Helper()
	holds(t, g, letters(w), setsOf(text))
}

// holds holds a word's sets, and that they are what is worked out from the productions alone, by the chapter's four sentences, and by the word's parts.
func holds(t *testing.T, g api.Grammar, w []int, want [][]api.Item) {
	t.Helper()
	if own := least(g, w); !same(own, want) {
		t.Fatalf("of %v, %v: wanted are %v, but worked out %v", g, w, want, own)
	}
	if own := byParts(g, w); !same(own, want) {
		t.Fatalf("of %v, %v: wanted are %v, but by parts %v", g, w, want, own)
	}
	says(t, g, w, want)
}

// works holds a word's sets against both workings-out.
func works(t *testing.T, g api.Grammar, w []int) {
	t.Helper()
	holds(t, g, w, byParts(g, w))
}

// says holds a word's sets, where it stops by them, and what is next at each: several times the same (R4), whatever becomes of what was told (R3); the arguments stay as they were.
func says(t *testing.T, g api.Grammar, w []int, want [][]api.Item) {
	t.Helper()
	oldG, oldW, room := gram.Clone(g), slices.Clone(w), slices.Clone(w[:cap(w)])
	at, bits, is := stopBy(g, w, want)
	for range 3 {
		got := chart.Sets(g, w)
		if !same(got, want) {
			t.Fatalf("Sets(%v, %v): %v, not %v", g, w, got, want)
		}
		ordered(t, got)
		apart(t, got)
		if a, b, c := chart.Stop(g, w); a != at || b != bits || c != is {
			t.Fatalf("Stop(%v, %v): %d, %b, %v, not %d, %b, %v", g, w, a, b, c, at, bits, is)
		}
	}
	for _, set := range want {
		next(t, g, set, nextBy(g, set))
	}
	if !gram.Same(g, oldG) || !slices.Equal(w, oldW) || !slices.Equal(w[:cap(w)], room) {
		t.Fatalf("of %v, %v became %v, %v", oldG, oldW, g, w)
	}
}

// next holds what is next at items: twice the same, and the items stay as they were, as does what is there behind their end.
func next(t *testing.T, g api.Grammar, set []api.Item, want uint32) {
	t.Helper()
	mark, oldG := item(77, 7, 777), gram.Clone(g)
	room := append(slices.Clone(set), mark, mark)
	old := slices.Clone(room)
	for range 2 {
		if got := chart.Next(g, room[:len(set)]); got != want {
			t.Fatalf("Next(%v, %v): %b, not %b", g, set, got, want)
		}
	}
	if !slices.Equal(room, old) || !gram.Same(g, oldG) {
		t.Fatalf("Next(%v, %v): they became %v, %v", oldG, old, g, room)
	}
}

// ordered holds that items stand by Prod, then Dot, then From, none of them twice.
func ordered(t *testing.T, l [][]api.Item) {
	t.Helper()
	for at, set := range l {
		for i := 1; i < len(set); i++ {
			a, b := set[i-1], set[i]
			if a.Prod > b.Prod || a.Prod == b.Prod && (a.Dot > b.Dot || a.Dot == b.Dot && a.From >= b.From) {
				t.Fatalf("at %d %v stands ahead of %v: %v", at, a, b, set)
			}
		}
	}
}

// apart changes all items of each set, and what may stand behind them, and holds that this changes no other set.
func apart(t *testing.T, l [][]api.Item) {
	t.Helper()
	for at, set := range l {
		set = set[:cap(set)]
		for i := range set {
			set[i] = api.Item{Prod: -7, Dot: -8, From: at}
		}
	}
	for at, set := range l {
		for _, it := range set[:cap(set)] {
			if it.From != at {
				t.Fatalf("the sets of %d and %d share an item", at, it.From)
			}
		}
	}
}

// P18.1, P18.2: the chapter's example.
func TestExample(t *testing.T) {
	g := api.Grammar{Terms: 2, Nons: 1, Prods: []api.Prod{
		{Left: 0, Right: []api.Sym{{N: 0}, {Non: true, N: 0}, {N: 1}}},
		{Left: 0},
	}}
	if at, bits, is := chart.Stop(g, []int{0, 0}); at != 2 || bits != 3 || !is {
		t.Errorf("Stop: %d, %b, %v", at, bits, is)
	}
	l := chart.Sets(g, []int{0, 0})
	if want := [][]api.Item{
		{item(0, 0, 0), item(1, 0, 0)},
		{item(0, 0, 1), item(0, 1, 0), item(0, 2, 0), item(1, 0, 1)},
		{item(0, 0, 2), item(0, 1, 1), item(0, 2, 1), item(1, 0, 2)},
	}; !same(l, want) {
		t.Errorf("Sets: %v", l)
	}
	for i, want := range []uint32{1 | 1<<16, 1 | 2, 1 | 2} {
		if got := chart.Next(g, l[i]); got != want {
			t.Errorf("Next at %d: %b", i, got)
		}
	}
	if chart.End != 16 {
		t.Errorf("End is %d", chart.End)
	}
	tells(t, g, "aa", "0.0.0 1.0.0; 0.0.1 0.1.0 0.2.0 1.0.1; 0.0.2 0.1.1 0.2.1 1.0.2")
	if g.Terms = api.MostTerms; !gram.Same(g, of("0: a 0 b; 0:")) {
		t.Error("a grammar isn't what its text says")
	}
}

// P18.1: one set more than the word has tokens, of words of each number of tokens: such that come, and such that stop at once, or in their middle.
func TestSetsHowMany(t *testing.T) {
	for _, g := range []api.Grammar{of("0: a 0; 0:"), of("0: a"), of("0:"), of("0: 1 2; 1: a 1; 1: b; 2: c"), of("0: a 0 0; 0: b; 0:"), grammar(api.MostNons, ring()+"0:")} {
		for many := range api.MostWord + 1 {
			for _, w := range [][]int{letters(as("a", many)), letters(as("b", many)), letters(as("p", many)), letters(as("a", many/2) + as("c", many-many/2))} {
				if l := chart.Sets(g, w); l == nil || len(l) != many+1 {
					t.Fatalf("Sets(%v, %v): %d", g, w, len(l))
				}
				works(t, g, w)
			}
		}
	}
}

// P18.1, R6: the empty word, be it nil or an empty list, has one set.
func TestSetsOfNothing(t *testing.T) {
	for text, set := range map[string]string{
		"0: a": "0.0.0", "0:": "0.0.0", "0: a; 0:": "0.0.0 1.0.0", "0: a b c d e f g h": "0.0.0", "0: a 0; 0: b": "0.0.0 1.0.0",
		"0: 1; 1:": "0.0.0 0.1.0 1.0.0", "0: 1; 1: a": "0.0.0 1.0.0", "0: a 1; 1:": "0.0.0", "0: 1 1; 1: a; 1:": "0.0.0 0.1.0 0.2.0 1.0.0 2.0.0",
		"0: 1 a; 0:; 1: b": "0.0.0 1.0.0 2.0.0", "0: 1 2; 1:; 2:": "0.0.0 0.1.0 0.2.0 1.0.0 2.0.0", "0: 1 2; 1:; 2: a": "0.0.0 0.1.0 1.0.0 2.0.0", "0: 1 2; 1: a; 2:": "0.0.0 1.0.0",
	} {
		for _, w := range [][]int{nil, {}, make([]int, 0, 3), letters("ab")[2:], letters("ab")[:0]} {
			holds(t, of(text), w, setsOf(set))
		}
	}
	g := api.Grammar{Nons: 1, Prods: []api.Prod{{}}} // no terminals at all
	holds(t, g, nil, setsOf("0.0.0"))
	holds(t, g, []int{}, setsOf("0.0.0"))
}

// P18.1: words of just MostWord tokens.
func TestSetsMostWord(t *testing.T) {
	g := of("0: a 0; 0: b")
	for wrong := range api.MostWord + 1 { // the place of c, behind which nothing may stand
		w := letters(as("a", api.MostWord))
		if wrong < len(w) {
			w[wrong] = 2
		}
		want := make([][]api.Item, len(w)+1)
		for at := range min(wrong, len(w)) + 1 {
			want[at] = []api.Item{item(0, 0, at)}
			if at > 0 {
				want[at] = append(want[at], item(0, 1, at-1))
			}
			want[at] = append(want[at], item(1, 0, at))
		}
		holds(t, g, w, want)
	}
	w := letters(as("a", api.MostWord))
	want := make([][]api.Item, len(w)+1)
	for at := range want {
		want[at] = []api.Item{item(0, 0, at)}
		if at > 0 {
			want[at] = append(want[at], item(0, 1, at-1))
		}
		for k := range at { // each of those that began ahead may end here
			want[at] = append(want[at], item(0, 2, k))
		}
		want[at] = append(want[at], item(1, 0, at))
	}
	holds(t, of("0: a 0; 0:"), w, want)
	all := letters("abcdefghijklmnopabcdefgh")
	works(t, of("0: 1 2 1; 1: a b c d e f g h; 2: i j k l m n o p"), all)
	for at := range all {
		wrong := slices.Clone(all)
		wrong[at] = (wrong[at] + 1) % api.MostTerms
		works(t, of("0: 1 2 1; 1: a b c d e f g h; 2: i j k l m n o p"), wrong)
	}
}

// P18.1: a set in which nothing may stand any more, and each behind it, is there, too.
func TestSetsWithNothing(t *testing.T) {
	tells(t, of("0: a b"), "bab", "0.0.0;;;")
	tells(t, of("0: a b"), "aab", "0.0.0; 0.1.0;;")
	tells(t, of("0: a b"), "abab", "0.0.0; 0.1.0; 0.2.0;;")
	tells(t, of("0:"), "a", "0.0.0;")
	tells(t, of("0:"), "pppp", "0.0.0;;;;")
	tells(t, of("0: 1 1; 1: a"), "aaaa", "0.0.0 1.0.0; 0.1.0 1.0.1 1.1.0; 0.2.0 1.1.1;;")
	tells(t, of("0: a 0 b; 0:"), "ba", "0.0.0 1.0.0;;")
	tells(t, of("0: a 0 b; 0:"), "abab", "0.0.0 1.0.0; 0.0.1 0.1.0 0.2.0 1.0.1; 0.3.0;;")
	for many := range api.MostWord {
		w := letters(as("a", many) + as("b", api.MostWord-many))
		l := chart.Sets(of("0: a 0; 0: a"), w)
		if len(l) != len(w)+1 {
			t.Fatalf("of %v: %d sets", w, len(l))
		}
		for at, set := range l {
			if is := len(set) > 0; is != (at <= many) {
				t.Errorf("of %v: at %d stands %v", w, at, set)
			}
		}
	}
}

// ring is the text of productions of as many nonterminals as there may be: each leads to the next one behind a token, and the last one to the first.
func ring() string {
	text := ""
	for i := range api.MostNons {
		text += strconv.Itoa(i) + ": a " + strconv.Itoa((i+1)%api.MostNons) + ";"
	}
	return text
}
