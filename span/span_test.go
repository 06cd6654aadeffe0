package span_test

import (
	"slices"
	"strconv"
	"strings"
	"testing"

	"probate/api"
	"probate/gram"
	"probate/span"
)

const last = api.MostNons - 1

// grammar is one of so many nonterminals, whose Start is 0, and of productions parted by ";": numbers are nonterminals, and letters, from a on, terminals.
func grammar(nons int, text string) api.Grammar {
	g := api.Grammar{Terms: api.MostTerms, Nons: nons}
	for _, line := range strings.Split(text, ";") {
		left, right, ok := strings.Cut(line, ":")
		if !ok {
			continue
		}
		p := api.Prod{Left: number(left)}
		for _, s := range strings.Fields(right) {
			if s[0] >= 'a' {
				p.Right = append(p.Right, api.Sym{N: int(s[0] - 'a')})
			} else {
				p.Right = append(p.Right, api.Sym{Non: true, N: number(s)})
			}
		}
		g.Prods = append(g.Prods, p)
	}
	return g
}

// from is a grammar with another Start.
func from(start int, g api.Grammar) api.Grammar {
	g.Start = start
	return g
}

func number(text string) int {
	n, err := strconv.Atoi(strings.TrimSpace(text))
	if err != nil {
		panic(err)
	}
	return n
}

// letters are tokens: a is 0.
func letters(text string) []int {
	var w []int
	for _, one := range text {
		w = append(w, int(one-'a'))
	}
	return w
}

// as is a letter, so many times.
func as(letter string, many int) string { return strings.Repeat(letter, many) }

// setOf is a set of numbers, parted by spaces.
func setOf(text string) uint32 {
	set := uint32(0)
	for _, one := range strings.Fields(text) {
		set |= 1 << number(one)
	}
	return set
}

// nonsOf is how many nonterminals productions have, of each of which there is one.
func nonsOf(text string) int {
	nons := 0
	for strings.Contains(";"+strings.ReplaceAll(text, " ", ""), ";"+strconv.Itoa(nons)+":") {
		nons++
	}
	return nons
}

// rowsOf are rows parted by ";": ahead of "|" the Ends of each nonterminal, by the digits of how many tokens come of it ("-" for none), behind it the nonterminals of Over.
func rowsOf(text string) []span.Row {
	var l []span.Row
	for _, line := range strings.Split(text, ";") {
		ends, over, _ := strings.Cut(line, "|")
		var row span.Row
		for non, digits := range strings.Fields(ends) {
			for _, one := range strings.Trim(digits, "-") {
				row.Ends[non] |= 1 << (one - '0')
			}
		}
		row.Over = setOf(over)
		l = append(l, row)
	}
	return l
}

// tells holds the rows of a word of letters, by their text.
func tells(t *testing.T, g api.Grammar, w, text string) {
	t.Helper()
	holds(t, g, letters(w), rowsOf(text))
}

// holds holds a word's rows, all that One tells by them, and that they are what is worked out from the productions alone.
func holds(t *testing.T, g api.Grammar, w []int, want []span.Row) {
	t.Helper()
	if own := byParts(g, w); !slices.Equal(own, want) {
		t.Fatalf("of %v, %v: wanted are %v, but worked out %v", g, w, want, own)
	}
	says(t, g, w, want)
}

// says holds a word's rows, and those of what is behind each of its places: several times the same (R4), whatever becomes of what was told (R3); the arguments stay as they were.
func says(t *testing.T, g api.Grammar, w []int, want []span.Row) {
	t.Helper()
	oldG, oldW := gram.Clone(g), slices.Clone(w)
	for range 2 {
		got := span.Rows(g, w)
		if !slices.Equal(got, want) {
			t.Fatalf("Rows(%v, %v): %v, not %v", g, w, got, want)
		}
		spoil(got)
	}
	for at := range want {
		if got := span.Rows(g, w[at:]); !slices.Equal(got, want[at:]) {
			t.Fatalf("Rows(%v, %v): %v, not %v", g, w[at:], got, want[at:])
		}
		one(t, g, w[at:], want[at:])
	}
	if !gram.Same(g, oldG) || !slices.Equal(w, oldW) {
		t.Fatalf("of %v, %v became %v, %v", oldG, oldW, g, w)
	}
}

// one holds a word's row, the first of its rows: twice the same, and what is behind stays as it was, as does what is there behind its end.
func one(t *testing.T, g api.Grammar, w []int, rows []span.Row) {
	t.Helper()
	mark := span.Row{Over: 77}
	room := append(slices.Clone(rows[1:]), mark, mark)
	behind := room[:len(rows)-1]
	for range 2 {
		if got := span.One(g, w, behind); got != rows[0] {
			t.Fatalf("One(%v, %v, %v): %v, not %v", g, w, behind, got, rows[0])
		}
	}
	if !slices.Equal(room[:len(behind)], rows[1:]) || room[len(behind)] != mark || room[len(behind)+1] != mark {
		t.Fatalf("One(%v, %v): %v became %v", g, w, rows[1:], room)
	}
}

// spoil changes all rows, and what may stand behind them.
func spoil(l []span.Row) {
	l = l[:cap(l)]
	for i := range l {
		l[i].Over = ^l[i].Over
		for non := range l[i].Ends {
			l[i].Ends[non] = ^l[i].Ends[non]
		}
	}
}

// P16.1: the chapter's example.
func TestExample(t *testing.T) {
	g := api.Grammar{Terms: 1, Nons: 1, Prods: []api.Prod{
		{Left: 0, Right: []api.Sym{{N: 0}, {Non: true, N: 0}}},
		{Left: 0},
	}}
	l := span.Rows(g, []int{0, 0})
	want := span.Row{Over: 1}
	want.Ends[0] = 7
	if len(l) != 3 || l[0] != want {
		t.Fatalf("Rows: %v", l)
	}
	if row := span.One(g, []int{0, 0}, l[1:]); row != want {
		t.Errorf("One: %v", row)
	}
	tells(t, g, "aa", "012 | 0; 01 | 0; 0 | 0")
	if g.Terms = api.MostTerms; !gram.Same(g, grammar(1, "0: a 0; 0:")) {
		t.Error("a grammar isn't what its text says")
	}
}

// P16.1: one row more than the word has tokens, in order: that of the word first, that of the empty word last.
func TestRowsInOrder(t *testing.T) {
	g := grammar(3, "0: 1 2; 1: a 1; 1: b; 2: c")
	tells(t, g, "aabc", "4 3 - | 0; 3 2 - | 0; 2 1 - | 0; - - 1 | 2; - - - | 0 1 2")
	tells(t, g, "cbaa", "- - 1 |; - 1 - |; - - - | 0 1; - - - | 0 1; - - - | 0 1 2")
	for many := range api.MostWord + 1 {
		for _, w := range [][]int{letters(as("a", many)), letters(as("b", many)), letters(as("p", many))} {
			l := span.Rows(g, w)
			if len(l) != many+1 {
				t.Fatalf("of %d tokens: %d rows", many, len(l))
			}
			if want := rowsOf("- - - | 0 1 2")[0]; l[many] != want {
				t.Errorf("of %v: the last row is %v, not %v", w, l[many], want)
			}
			holds(t, g, w, l)
		}
	}
}

// P16.1, R6: the empty word, be it nil or an empty list, has one row.
func TestRowsOfNothing(t *testing.T) {
	for text, row := range map[string]string{
		"0: a": "- | 0", "0:": "0 | 0", "0: a; 0:": "0 | 0", "0: a b c d e f g h": "- | 0", "0: a 0; 0: b": "- | 0",
		"0: 1; 1:": "0 0 | 0 1", "0: 1; 1: a": "- - | 0 1", "0: a 1; 1:": "- 0 | 0 1", "0: 1 1; 1: a; 1:": "0 0 | 0 1", "0: 1 a; 0:; 1: b": "0 - | 0 1",
		"0: 1 2; 1:; 2:": "0 0 0 | 0 1 2", "0: 1 2; 1:; 2: a": "- 0 - | 0 1 2", "0: 1 2; 1: a; 2:": "- - 0 | 0 1 2", "0: 1; 1: 2; 2:": "0 0 0 | 0 1 2",
	} {
		for _, w := range [][]int{nil, {}, make([]int, 0, 3), letters("ab")[2:]} {
			holds(t, grammar(nonsOf(text), text), w, rowsOf(row))
		}
	}
	g := api.Grammar{Nons: 1, Prods: []api.Prod{{}}} // no terminals at all
	holds(t, g, nil, rowsOf("0 | 0"))
	holds(t, g, []int{}, rowsOf("0 | 0"))
}

// P16.1: words of just MostWord tokens.
func TestRowsMostWord(t *testing.T) {
	g := grammar(2, "0: a 0; 0: 1; 1: b 1; 1:")
	for wrong := range api.MostWord + 1 { // the place of b: behind it a may not stand
		w := letters(as("a", api.MostWord))
		if wrong < len(w) {
			w[wrong] = 1
		}
		var want []span.Row
		for at := range len(w) + 1 {
			var row span.Row
			left, good := len(w)-at, len(w)-at // how many tokens are left, and how many of them may stand there
			if at <= wrong && wrong < len(w) {
				good = wrong - at + 1
			}
			row.Ends[0] = 1<<(good+1) - 1
			row.Ends[1] = 1
			if at == wrong && wrong < len(w) {
				row.Ends[1] = 3
			}
			if left == good {
				row.Over = 1
			}
			if left == 0 || left == 1 && wrong == len(w)-1 {
				row.Over = 3
			}
			want = append(want, row)
		}
		holds(t, g, w, want)
	}
	all := letters("abcdefghijklmnopabcdefgh")
	g = grammar(3, "0: 1 2 1; 1: a b c d e f g h; 2: i j k l m n o p")
	want := make([]span.Row, len(all)+1)
	want[0] = span.Row{Ends: [api.MostNons]uint32{1 << 24, 1 << 8}, Over: 1 << 0}
	want[8].Ends[2] = 1 << 8
	want[16] = span.Row{Ends: [api.MostNons]uint32{0, 1 << 8}, Over: 1<<0 | 1<<1}
	want[24].Over = 1<<0 | 1<<1 | 1<<2
	holds(t, g, all, want)
}

// P16.1: productions of no symbols, and of terminals alone.
func TestRowsPlain(t *testing.T) {
	tells(t, grammar(1, "0:"), "a", "0 |; 0 | 0")
	tells(t, grammar(1, "0:"), "ab", "0 |; 0 |; 0 | 0")
	tells(t, grammar(1, "0: a"), "a", "1 | 0; - | 0")
	tells(t, grammar(1, "0: a"), "aa", "1 |; 1 | 0; - | 0")
	tells(t, grammar(1, "0: a"), "b", "- |; - | 0")
	tells(t, grammar(1, "0: a b a"), "abab", "3 |; - |; - | 0; - |; - | 0")
	tells(t, grammar(1, "0: a b a"), "aba", "3 | 0; - |; - | 0; - | 0")
	tells(t, grammar(1, "0: a b; 0: a; 0:; 0: a b c"), "abc", "0123 | 0; 0 |; 0 |; 0 | 0")
	tells(t, grammar(1, "0: a b; 0: a; 0:; 0: a b c"), "abb", "012 |; 0 |; 0 |; 0 | 0")
	tells(t, grammar(1, "0: a; 0: a; 0: b"), "ab", "1 |; 1 | 0; - | 0")
	for n := range api.MostTerms {
		g := api.Grammar{Terms: n + 1, Nons: 1, Prods: []api.Prod{{Right: []api.Sym{{N: n}}}}}
		holds(t, g, []int{n}, rowsOf("1 | 0; - | 0"))
		if n > 0 {
			holds(t, g, []int{n - 1, n}, rowsOf("- |; 1 | 0; - | 0"))
		}
	}
}

// P16.1: productions of MostRight symbols, of terminals, of nonterminals, and of one of these at each place.
func TestRowsMostRight(t *testing.T) {
	tells(t, grammar(1, "0: a b c d e f g h"), "abcdefgh", "8 | 0; - |; - |; - |; - |; - |; - |; - |; - | 0")
	tells(t, grammar(1, "0: a b c d e f g h"), "abcdefghh", "8 |; - |; - |; - |; - |; - |; - |; - |; - |; - | 0")
	tells(t, grammar(2, "0: 1 1 1 1 1 1 1 1; 1: a"), "aaaaaaaaa", "8 1 |; 8 1 | 0; - 1 | 0; - 1 | 0; - 1 | 0; - 1 | 0; - 1 | 0; - 1 | 0; - 1 | 0 1; - - | 0 1")
	tells(t, grammar(2, "0: 1 1 1 1 1 1 1 1; 1: a; 1:"), "aaaaaaaaa", "012345678 01 |; 012345678 01 | 0; 01234567 01 | 0; 0123456 01 | 0; 012345 01 | 0; 01234 01 | 0; 0123 01 | 0; 012 01 | 0; 01 01 | 0 1; 0 0 | 0 1")
	for place := range api.MostRight {
		symbols := strings.Split("c d e f g h i j", " ")
		symbols[place] = "1"
		g := grammar(2, "0: "+strings.Join(symbols, " ")+"; 1: a b; 1:")
		symbols[place] = "ab"
		w := letters(strings.Join(symbols, ""))
		want := make([]span.Row, len(w)+1)
		for at := range want {
			want[at].Ends[1] = 1
		}
		want[0].Ends[0], want[0].Over = 1<<len(w), 1
		want[place].Ends[1] = 1 | 1<<2
		switch place {
		case 0: // behind a and b stands what comes of 0, too
			want[2].Ends[0], want[2].Over = 1<<(len(w)-2), 1
		case api.MostRight - 1: // what is ahead of it comes of 0, too
			want[place].Over = 2
			want[0].Ends[0] |= 1 << place
		}
		want[len(w)].Over = 3
		holds(t, g, w, want)
	}
}

// P16.1: nonterminals of which nothing comes, side by side, at the left, in the middle and at the right of others.
func TestRowsNothingSideBySide(t *testing.T) {
	tells(t, grammar(3, "0: 1 2; 1:; 2:"), "a", "0 0 0 |; 0 0 0 | 0 1 2")
	tells(t, grammar(3, "0: 1 2 a; 1:; 2:"), "a", "1 0 0 | 0; - 0 0 | 0 1 2")
	tells(t, grammar(3, "0: a 1 2; 1:; 2:"), "a", "1 0 0 | 0; - 0 0 | 0 1 2")
	tells(t, grammar(3, "0: a 1 2 b; 1:; 2:"), "ab", "2 0 0 | 0; - 0 0 |; - 0 0 | 0 1 2")
	tells(t, grammar(3, "0: 1 2 a 2 1 b 1 2; 1:; 2:"), "ab", "2 0 0 | 0; - 0 0 |; - 0 0 | 0 1 2")
	tells(t, grammar(3, "0: 1 2 1; 1: a; 1:; 2: b; 2:"), "aba", "0123 01 0 | 0; 012 0 01 | 0; 01 01 0 | 0 1; 0 0 0 | 0 1 2")
	tells(t, grammar(3, "0: 1 2 1; 1: a; 1:; 2: b; 2:"), "aab", "012 01 0 |; 012 01 0 | 0; 01 0 01 | 0 2; 0 0 0 | 0 1 2")
	tells(t, grammar(3, "0: 1 c 2; 1: a; 1:; 2: b; 2:"), "acb", "23 01 0 | 0; 12 0 0 | 0; - 0 01 | 2; - 0 0 | 0 1 2")
	tells(t, grammar(4, "0: 1 2 3; 1:; 2: b; 2:; 3:"), "b", "01 0 01 0 | 0 2; 0 0 0 0 | 0 1 2 3")
	tells(t, grammar(4, "0: 1 2 3 a; 1: 2 2; 2: 3 3; 3:"), "aa", "1 0 0 0 |; 1 0 0 0 | 0; - 0 0 0 | 0 1 2 3")
	tells(t, grammar(4, "3:; 2: 3 3; 1: 2 2; 0: 1 2 3 a"), "aa", "1 0 0 0 |; 1 0 0 0 | 0; - 0 0 0 | 0 1 2 3")
	tells(t, grammar(2, "0: 1 1 1 1 1 1 1 1; 1:"), "b", "0 0 |; 0 0 | 0 1")
	for place := range api.MostRight { // all others come to nothing
		symbols := slices.Repeat([]string{"1"}, api.MostRight)
		symbols[place] = "2"
		g := grammar(3, "0: "+strings.Join(symbols, " ")+"; 1:; 2: a 2; 2: b")
		tells(t, g, "aab", "3 0 3 | 0 2; 2 0 2 | 0 2; 1 0 1 | 0 2; - 0 - | 0 1 2")
		symbols[place] = "c"
		g = grammar(2, "0: "+strings.Join(symbols, " ")+"; 1:")
		tells(t, g, "cc", "1 0 |; 1 0 | 0; - 0 | 0 1")
	}
}

// P16.1: nonterminals that stand for each other, at whatever number and in whatever order of productions.
func TestRowsForEachOther(t *testing.T) {
	tells(t, grammar(3, "0: 1; 1: 2; 2: a"), "a", "1 1 1 | 0 1 2; - - - | 0 1 2")
	tells(t, grammar(3, "2: a; 1: 2; 0: 1"), "a", "1 1 1 | 0 1 2; - - - | 0 1 2")
	tells(t, from(2, grammar(3, "2: 1; 1: 0; 0: a b")), "ab", "2 2 2 | 0 1 2; - - - |; - - - | 0 1 2")
	tells(t, from(1, grammar(3, "1: 2; 2: 0; 0: a; 0:; 1: b")), "b", "0 01 0 | 1; 0 0 0 | 0 1 2")
	tells(t, grammar(2, "0: 1; 0: a; 1: b 0; 1: c"), "bba", "3 3 | 0 1; 2 2 | 0 1; 1 - | 0; - - | 0 1")
	tells(t, grammar(2, "0: 1; 1: a 0; 1: b"), "aab", "3 3 | 0 1; 2 2 | 0 1; 1 1 | 0 1; - - | 0 1")
	tells(t, grammar(3, "0: 1; 0: 2; 1: a; 2: a b"), "ab", "12 1 2 | 0 2; - - - |; - - - | 0 1 2")
	for _, order := range []func(text []string){func([]string) {}, slices.Reverse[[]string]} {
		var text []string
		for i := range last {
			text = append(text, strconv.Itoa(i)+": "+strconv.Itoa(i+1))
		}
		text = append(text, strconv.Itoa(last)+": a b")
		order(text)
		var itself, nothing span.Row
		for non := range api.MostNons {
			itself.Ends[non] = 1 << 2
			itself.Over |= 1 << non
			nothing.Over |= 1 << non
		}
		holds(t, grammar(api.MostNons, strings.Join(text, ";")), letters("ab"), []span.Row{itself, {}, nothing})
	}
}

// P16.1: nonterminals of which several beginnings of one word come, in one way and in several.
func TestRowsSeveral(t *testing.T) {
	tells(t, grammar(1, "0: a 0; 0:"), "aaab", "0123 |; 012 |; 01 |; 0 |; 0 | 0")
	tells(t, grammar(1, "0: a 0; 0: a"), "aaa", "123 | 0; 12 | 0; 1 | 0; - | 0")
	tells(t, grammar(1, "0: a a a 0; 0: a a; 0:"), "aaaaaaa", "02356 | 0; 02356 | 0; 0235 | 0; 023 | 0; 023 | 0; 02 | 0; 0 | 0; 0 | 0")
	tells(t, grammar(2, "0: 1 1; 1: a; 1: a a"), "aaaaa", "234 12 |; 234 12 | 0; 23 12 | 0; 2 12 | 0 1; - 1 | 0 1; - - | 0 1")
	tells(t, grammar(2, "0: 1 b 1; 1: a 1; 1: b 1; 1:"), "abab", "234 01234 | 0 1; 123 0123 | 0 1; 2 012 | 0 1; 1 01 | 0 1; - 0 | 0 1")
	tells(t, grammar(1, "0: a 0 b 0; 0:"), "aababbab", "068 | 0; 024 |; 0 |; 02 |; 0 |; 0 |; 02 | 0; 0 |; 0 | 0")
	tells(t, grammar(1, "0: a 0 0; 0: b; 0:"), "aab", "0123 | 0; 012 | 0; 01 | 0; 0 | 0")
	tells(t, grammar(2, "0: 1 0; 0:; 1: a; 1: a b; 1: b a"), "abaab", "012345 12 | 0; 0234 2 | 0; 0123 1 | 0; 012 12 | 0 1; 0 - | 0 1; 0 - | 0 1")
}

// ring is the text of productions of as many nonterminals as there may be: each leads to the next one behind a token, and the last one to the first.
func ring() string {
	text := ""
	for i := range api.MostNons {
		text += strconv.Itoa(i) + ": a " + strconv.Itoa((i+1)%api.MostNons) + ";"
	}
	return text
}

// P16.1: as many nonterminals as there may be, of each of which something else comes, so that each bit of Over stands alone, up to the highest one.
func TestRowsMostNons(t *testing.T) {
	text := "0:;"
	for i := range last {
		text += "0: a " + strconv.Itoa(i+1) + ";"
	}
	for i := 1; i < api.MostNons; i++ { // of i two letters come, and of no other one these
		text += strconv.Itoa(i) + ": " + string(rune('b'+i%5)) + " " + string(rune('b'+i/5)) + ";"
	}
	g := grammar(api.MostNons, text)
	var nothing span.Row
	nothing.Ends[0], nothing.Over = 1, 1<<api.MostNons-1
	for i := 1; i < api.MostNons; i++ {
		w := []int{0, 1 + i%5, 1 + i/5}
		want := make([]span.Row, 4)
		want[0].Ends[0], want[0].Over = 1|1<<3, 1
		want[1].Ends[0], want[1].Over = 1, 1<<i
		want[1].Ends[i] = 1 << 2
		want[2].Ends[0] = 1
		for k := 1; k < api.MostNons; k++ {
			if k%5 == i/5 {
				want[2].Over |= 1 << k
			}
		}
		want[3] = nothing
		holds(t, g, w, want)
	}
	for start := range api.MostNons { // each of them is ahead of all others
		w := letters(as("a", api.MostNons))
		want := make([]span.Row, len(w)+1)
		for at := range want {
			for non := range api.MostNons { // as many tokens come of one as it is ahead of the one of which nothing comes
				far := (start + api.MostNons - non) % api.MostNons
				if far <= len(w)-at {
					want[at].Ends[non] |= 1 << far
				}
				if far += api.MostNons; far <= len(w)-at {
					want[at].Ends[non] |= 1 << far
				}
			}
			want[at].Over = 1<<api.MostNons - 1
		}
		holds(t, from(start, grammar(api.MostNons, ring()+strconv.Itoa(start)+":")), w, want)
	}
}

// P16.1: of what is no nonterminal of the grammar all is 0, of however many there are.
func TestRowsOfNoNonterminal(t *testing.T) {
	for nons := 1; nons <= api.MostNons; nons++ {
		text := "0:;"
		for i := range nons - 1 {
			text += strconv.Itoa(i) + ": a " + strconv.Itoa(i+1) + ";" + strconv.Itoa(i+1) + ": b;"
		}
		g := grammar(nons, text)
		for _, w := range []string{"", "a", "b", "p", "aab", as("a", api.MostWord)} {
			l := span.Rows(g, letters(w))
			holds(t, g, letters(w), l)
			for at, row := range l {
				for non := nons; non < api.MostNons; non++ {
					if row.Ends[non] != 0 {
						t.Errorf("of %d nonterminals: Ends of %d at %d of %s are %b", nons, non, at, w, row.Ends[non])
					}
				}
				if row.Over>>nons != 0 || at == len(w) && row.Over != 1<<nons-1 {
					t.Errorf("of %d nonterminals: Over at %d of %s is %b", nons, at, w, row.Over)
				}
			}
		}
	}
}

// P16.1: as many productions as there may be, each of which tells something that no other one does.
func TestRowsMostProds(t *testing.T) {
	g := api.Grammar{Terms: api.MostTerms, Nons: 1}
	for i := range api.MostProds {
		g.Prods = append(g.Prods, api.Prod{Right: []api.Sym{{N: i % 16}, {N: i / 16}}})
	}
	for a := range api.MostTerms {
		for b := range api.MostTerms {
			text := "- |; - | 0; - | 0"
			if 16*b+a < api.MostProds {
				text = "2 | 0; - | 0; - | 0"
			}
			holds(t, g, []int{a, b}, rowsOf(text))
		}
	}
	for at := range api.MostProds { // at each place the one without which no word of more than a token comes
		g := grammar(2, strings.Repeat("0: 1;", api.MostProds-2)+"1: a; 1: b 0")
		g.Prods[at], g.Prods[api.MostProds-1] = g.Prods[api.MostProds-1], g.Prods[at]
		tells(t, g, "bba", "3 3 | 0 1; 2 2 | 0 1; 1 1 | 0 1; - - | 0 1")
		tells(t, g, "bbc", "- - |; - - |; - - |; - - | 0 1")
	}
}
