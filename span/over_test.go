package span_test

import (
	"strconv"
	"strings"
	"testing"

	"probate/api"
	"probate/span"
)

// over holds that just these nonterminals are in Over of a word, and all of the row by what is worked out.
func over(t *testing.T, g api.Grammar, w, nons string) {
	t.Helper()
	l := span.Rows(g, letters(w))
	if len(l) != len(w)+1 || l[0].Over != setOf(nons) {
		t.Fatalf("Rows(%v, %s): %v, but Over is of %s", g, w, l, nons)
	}
	holds(t, g, letters(w), l)
}

// P16.1: words that come themselves, that are only the beginning of one, and that are neither, wrong at their first, at a middle and at their last token.
func TestOverOfOne(t *testing.T) {
	g := grammar(1, "0: a b c d e f g h")
	all := "abcdefgh"
	for many := range len(all) + 1 {
		over(t, g, all[:many], "0")
		for wrong := range many {
			w := []byte(all[:many])
			w[wrong] = 'p'
			over(t, g, string(w), "")
			w[wrong] = all[(wrong+1)%len(all)]
			over(t, g, string(w), "")
		}
		if many > 0 {
			over(t, g, all+all[:many], "")
		}
	}
	tells(t, g, "abc", "- | 0; - |; - |; - | 0")
}

// P16.1: of the empty word each nonterminal's bit, of however many there are, and whatever comes of them.
func TestOverOfNothing(t *testing.T) {
	for nons := 1; nons <= api.MostNons; nons++ {
		for _, end := range []string{"", "a", "p b", "a a a a a a a"} {
			text := ""
			for i := range nons - 1 {
				text += strconv.Itoa(i) + ": " + strconv.Itoa(i+1) + " " + end + ";"
			}
			g := grammar(nons, text+strconv.Itoa(nons-1)+": "+end)
			for _, w := range [][]int{nil, {}, {15}, {1, 0, 1}} {
				l := span.Rows(g, w)
				if len(l) != len(w)+1 || l[len(w)].Over != 1<<nons-1 {
					t.Fatalf("Rows(%v, %v): %v", g, w, l)
				}
				holds(t, g, w, l)
			}
		}
	}
}

// P16.1: words that end within a production, within one that stands in another one, and just behind a symbol.
func TestOverWithin(t *testing.T) {
	g := grammar(3, "0: a b 1 c; 1: d 2 e; 2: f g")
	all := "abdfgec"
	for many := 1; many <= len(all); many++ {
		over(t, g, all[:many], "0")
		for wrong := range many {
			w := []byte(all[:many])
			w[wrong]++
			over(t, g, string(w), "")
		}
	}
	over(t, g, all+"a", "")
	over(t, g, all+"c", "")
	for _, w := range []string{"d", "df", "dfg", "dfge"} {
		over(t, g, w, "1")
	}
	for _, w := range []string{"f", "fg"} {
		over(t, g, w, "2")
	}
	for _, w := range []string{"b", "bd", "g", "e", "ec", "c", "ac", "abe", "abc", "abdg", "abde", "abdfe", "abdfgc", "dfgec", "fge", "p"} {
		over(t, g, w, "")
	}
	g = grammar(4, "0: 1 2; 1: a 3; 2: b 3 c; 3: d; 3: d 3") // just behind a symbol, or within it
	for _, w := range []string{"a", "ad", "add", "addb", "addbd", "addbdc", "addbddd", "addbdddc", "adbdc"} {
		nons := "0"
		if !strings.Contains(w, "b") {
			nons = "0 1"
		}
		over(t, g, w, nons)
	}
	for _, w := range []string{"b", "bd", "bdd", "bddc"} {
		over(t, g, w, "2")
	}
	over(t, g, "d", "3")
	over(t, g, "ddd", "3")
	for _, w := range []string{"ab", "ac", "adc", "addbc", "addbdcd", "addbdcc", "addbdb", "bc", "bdcd", "dc", "db", "c"} {
		over(t, g, w, "")
	}
}

// P16.1: words that end just behind each symbol, and at each place of one that stands at each place.
func TestOverAtEachPlace(t *testing.T) {
	for place := range api.MostRight {
		symbols := strings.Split("d e f g h i j k", " ")
		symbols[place] = "1"
		g := grammar(3, "0: "+strings.Join(symbols, " ")+"; 1: a 2 c; 2: b b")
		symbols[place] = "abbc"
		all := strings.Join(symbols, "")
		for many := 1; many <= len(all); many++ {
			nons := "0"
			if place == 0 && many <= 4 {
				nons = "0 1"
			}
			over(t, g, all[:many], nons)
			w := []byte(all[:many])
			w[many-1] = 'p'
			over(t, g, string(w), "")
		}
	}
}

// P16.1: words all of which comes of a production's first symbols, and nothing of the last ones, be it that nothing else comes of these, or something, or that something must.
func TestOverFirstSymbols(t *testing.T) {
	tells(t, grammar(3, "0: 1 2; 1: a b; 2:"), "ab", "2 2 0 | 0 1; - - 0 |; - - 0 | 0 1 2")
	tells(t, grammar(3, "0: 1 2; 1: a b; 2:; 2: c"), "ab", "2 2 0 | 0 1; - - 0 |; - - 0 | 0 1 2")
	tells(t, grammar(3, "0: 1 2; 1: a b; 2: c"), "ab", "- 2 - | 0 1; - - - |; - - - | 0 1 2")
	tells(t, grammar(2, "0: 1 c; 1: a b"), "ab", "- 2 | 0 1; - - |; - - | 0 1")
	tells(t, grammar(2, "0: a b 1; 1:"), "ab", "2 0 | 0; - 0 |; - 0 | 0 1")
	tells(t, grammar(2, "0: a b 1; 1: c 0; 1: c"), "ab", "- - | 0; - - |; - - | 0 1")
	tells(t, grammar(4, "0: 1 2 3; 1: a; 2: b; 2:; 3: c; 3:"), "a", "1 1 0 0 | 0 1; - - 0 0 | 0 1 2 3")
	for many := 1; many < api.MostRight; many++ { // of so many symbols, the first ones, a token comes
		right := "0:" + strings.Repeat(" 1", many) + strings.Repeat(" 2", api.MostRight-many)
		for other, ends := range map[string]uint32{"; 2: b": 0, "; 2: b; 2:": 1 << many} {
			g := grammar(3, right+"; 1: a"+other)
			l := span.Rows(g, letters(as("a", many)))
			if len(l) != many+1 || l[0].Over&1 != 1 || l[0].Ends[0] != ends {
				t.Fatalf("of %v, %d tokens: %v", g, many, l)
			}
			holds(t, g, letters(as("a", many)), l)
			over(t, g, as("a", many)+"b", "0")
			over(t, g, as("a", many)+as("b", api.MostRight-many), "0")
			over(t, g, as("a", many)+as("b", api.MostRight-many)+"b", "")
			over(t, g, as("a", many)+"a", "")
			over(t, g, as("a", many)+"c", "")
		}
	}
}

// P16.1: nonterminals of which longer words come than MostWord, in any number, and in one alone.
func TestOverLonger(t *testing.T) {
	all := as("a", api.MostWord)
	for _, c := range []struct{ text, all, ends string }{ // behind the productions: who is over MostWord a, and over a b in place of the last one; at the right: how many a come of 0 at most
		{"0: 1 1 1 1; 1: a a a a a a a a", "0", ""},                             // 32
		{"0: 1 1 1 1 a; 1: a a a a a a", "0", ""},                               // 25
		{"0: 1 1 1 1; 1: a a a a a a", "0", ""},                                 // 24
		{"0: 1 1 1 1 b; 1: a a a a a a", "0", ""},                               // 24
		{"0: 1 1 1 1; 1: a a a a a; 1: a a a", "", ""},                          // 20
		{"0: 1 1 1 2; 1: a a a a a a a; 2: a; 2: a b; 2: a a b", "", "0"},       // 23
		{"0: 1 1 1 2; 1: a a a a a a a; 2: a a b b; 2: a a a", "0", "0"},        // 24
		{"0: 1 1; 1: 2 2; 2: 3 3; 3: 4 4; 4: a a a", "0 1", ""},                 // 48
		{"0: 1 1; 1: 2 2 2; 2: 3 3 3; 3: a a a", "0 1", ""},                     // 54
		{"0: 1; 1: 2; 2: 3; 3: 4 4 4 4 4; 4: a 5; 5: a a a a a", "0 1 2 3", ""}, // 30
		{"0: a 0; 0: b", "0", "0"},                                              // of any length
		{"0: a 0; 0: a a a a a a 0 1; 0: b; 1: b", "0", "0"},
		{"0: 1 0; 0: b; 1: a; 1: a a 1", "0 1", "0"},
	} {
		g := grammar(nonsOf(c.text), c.text)
		over(t, g, all, c.all)
		over(t, g, all[1:]+"b", c.ends)
		over(t, g, all[1:]+"p", "")
		over(t, g, "p"+all[1:], "")
	}
	tells(t, grammar(2, "0: 1 1 1; 1: a a a; 1: b"), "aab", "- - |; - - |; - 1 | 0 1; - - | 0 1")
	deep := "" // each has eight times as many as the next one: of 0 come far more than can be counted
	for i := range last {
		deep += strconv.Itoa(i) + ":" + strings.Repeat(" "+strconv.Itoa(i+1), api.MostRight) + ";"
	}
	g := grammar(api.MostNons, deep+strconv.Itoa(last)+": a b c")
	over(t, g, as("abc", 8), "0 1 2 3 4 5 6 7 8 9 10 11 12 13 14 15 16 17 18 19 20 21 22")
	l := span.Rows(g, letters(as("abc", 8)))
	if l[0].Ends[last] != 1<<3 || l[0].Ends[last-1] != 1<<24 || l[0].Ends[last-2] != 0 {
		t.Errorf("Ends: %v", l[0].Ends)
	}
	over(t, g, as("abc", 7)+"aba", "")
}
