package span_test

import (
	"math/bits"
	"strconv"
	"testing"

	"probate/api"
	"probate/span"
)

// lengths is a grammar of whose nonterminal 0 come as many a as each bit of a set (the highest one MostWord's) tells that is 1; of each other one as many fewer as its number is.
func lengths(set uint32) api.Grammar {
	top := bits.Len32(set) - 1
	text, nons := "", min(top+1, api.MostNons)
	for i := range nons {
		non := strconv.Itoa(i)
		if set>>i&1 == 1 {
			text += non + ":;"
		}
		if i < nons-1 {
			text += non + ": a " + strconv.Itoa(i+1) + ";"
		}
	}
	if top == api.MostNons { // there is no nonterminal of which nothing alone comes
		text += strconv.Itoa(last) + ": a;"
	}
	return grammar(nons, text)
}

// ofLengths are the rows of a word of a, of which some may be another token.
func ofLengths(g api.Grammar, set uint32, w []int) []span.Row {
	l := make([]span.Row, len(w)+1)
	for at := range l {
		good := at
		for good < len(w) && w[good] == 0 {
			good++
		}
		for non := range g.Nons {
			l[at].Ends[non] = set >> non & (1<<(good-at+1) - 1)
			if good == len(w) && set>>non>>(good-at) > 0 {
				l[at].Over |= 1 << non
			}
		}
	}
	return l
}

// P16.1: each bit of Ends each way round, up to the one of MostWord tokens: alone, all but it, and others; none above how many tokens the word has.
func TestEndsEachBit(t *testing.T) {
	const all = 1<<(api.MostWord+1) - 1
	sets := []uint32{all, all &^ 1, all >> 1, 0x555555, 0xaaaaaa, 0x1555555, 0xaaaaab, 0xfff000, 0x1000fff, 0x1800001, 0x1249249, 3, 5, 6, 7}
	for bit := range api.MostWord + 1 {
		sets = append(sets, 1<<bit, all&^(1<<bit))
	}
	for _, set := range sets {
		g := lengths(set)
		w := letters(as("a", api.MostWord))
		holds(t, g, w, ofLengths(g, set, w))
		for _, wrong := range []int{0, 1, api.MostWord / 2, api.MostWord - 1} {
			w := letters(as("a", api.MostWord))
			w[wrong] = 1
			holds(t, g, w, ofLengths(g, set, w))
		}
	}
}

// P16.1: no bit above how many tokens the word has, though more tokens may come.
func TestEndsNoneAbove(t *testing.T) {
	for many := range api.MostWord + 1 {
		w := letters(as("a", many))
		for _, c := range []struct {
			text string
			ends uint32
		}{
			{"0: a 0; 0:", 1<<(many+1) - 1},
			{"0: a 0; 0: a", 1<<(many+1) - 2},
			{"0: a 0 0; 0:", 1<<(many+1) - 1},
			{"0: a a 0; 0:", 0x1555555 & (1<<(many+1) - 1)},
			{"0: a a a a a a a a; 0: a a a a a a a; 0: a", (1<<1 | 1<<7 | 1<<8) & (1<<(many+1) - 1)},
		} {
			got := span.Rows(grammar(1, c.text), w)
			if len(got) != many+1 || got[0].Ends[0] != c.ends {
				t.Fatalf("of %s, %d tokens: %v, not %b", c.text, many, got, c.ends)
			}
			holds(t, grammar(1, c.text), w, got)
		}
	}
}

// P16.1: bit 0 just if nothing comes of the nonterminal, whatever the word is.
func TestEndsNothing(t *testing.T) {
	for _, c := range []struct {
		start   int
		text    string
		nothing string // the nonterminals of which nothing comes
	}{
		{0, "0: a", ""},
		{0, "0:", "0"},
		{0, "0: a; 0:", "0"},
		{0, "0: a 1; 1:", "1"},
		{0, "0: 1; 1:", "0 1"},
		{0, "0: 1; 1: a", ""},
		{0, "0: 1 a; 1:", "1"},
		{0, "0: 1 1 1; 1: b; 1:", "0 1"},
		{0, "0: 1 2; 1:; 2: a", "1"},
		{0, "0: 2 1; 1:; 2: a", "1"},
		{0, "0: 1 2; 1:; 2: a; 2: 1", "0 1 2"},
		{0, "0: 1 2 1 2 1 2 1 2; 1:; 2:", "0 1 2"},
		{0, "0: 1 2 1 2 1 2 1 2; 1:; 2: c", "1"},
		{0, "0: 1 1 1 1 1 1 1 2; 1:; 2: c", "1"},
		{0, "0: 2 1 1 1 1 1 1 1; 1:; 2: c", "1"},
		{0, "0: 1; 1: 2; 2: 3; 3:", "0 1 2 3"},
		{3, "3: 2; 2: 1; 1: 0; 0:", "0 1 2 3"},
		{0, "0: a 0 1; 0: 2 2; 1: b 2; 2: 3; 3:", "0 2 3"},
		{0, "0: 1 2 3; 1: a; 1: 2; 2: b; 2: 3; 3: c 0; 3:", "0 1 2 3"},
		{0, "0: 1 2 3; 1: a; 1: 2; 2: b; 2: 3; 3: c", ""},
	} {
		g := from(c.start, grammar(nonsOf(c.text), c.text))
		for _, w := range []string{"", "a", "b", "p", "ab", "cab", "aaaaaa", as("cba", 8)} {
			l := span.Rows(g, letters(w))
			if len(l) != len(w)+1 {
				t.Fatalf("Rows(%v, %s): %v", g, w, l)
			}
			for at, row := range l {
				nothing := uint32(0)
				for non, ends := range row.Ends {
					nothing |= ends & 1 << non
				}
				if nothing != setOf(c.nothing) {
					t.Errorf("of %s, at %d of %q: nothing comes of %b", c.text, at, w, nothing)
				}
			}
			holds(t, g, letters(w), l)
		}
	}
}
