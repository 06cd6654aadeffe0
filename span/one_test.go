package span_test

import (
	"slices"
	"testing"

	"probate/api"
	"probate/gram"
	"probate/span"
)

// builds holds that One, from the empty word on, tells row by row what Rows tells, by what it told itself.
func builds(t *testing.T, g api.Grammar, w []int) {
	t.Helper()
	var rows []span.Row
	for at := len(w); at >= 0; at-- {
		old := slices.Clone(rows)
		row := span.One(g, w[at:], rows)
		if again := span.One(g, w[at:], rows); again != row || !slices.Equal(rows, old) {
			t.Fatalf("One(%v, %v): %v, and then %v, of %v, which became %v", g, w[at:], row, again, old, rows)
		}
		rows = slices.Insert(rows, 0, row)
	}
	if all := span.Rows(g, w); !slices.Equal(rows, all) {
		t.Fatalf("of %v, %v: One by one %v, but Rows %v", g, w, rows, all)
	}
}

// ones are grammars that One is asked of.
func ones() []api.Grammar {
	return []api.Grammar{
		grammar(1, "0: a 0; 0:"),
		grammar(1, "0: a 0 b 0; 0:"),
		grammar(1, "0: a a a a a a a a"),
		grammar(2, "0: 1 1; 1: a 1; 1: b"),
		grammar(3, "0: 1 2 0; 0: 2; 1: a; 1: b 1 a; 2:; 2: c"),
		grammar(4, "0: 1 2 3; 1: 2 2; 2: 3 3; 3: a; 3: b; 3:"),
		from(3, grammar(4, "3: 0 1 2 3 c; 3: 1; 0: a; 1: b; 2:; 2: a b")),
		lengths(1<<(api.MostWord+1) - 1),
	}
}

// P16.1: One tells the row that Rows tells, of words of each number of tokens from none to MostWord.
func TestOneOfEachNumber(t *testing.T) {
	for _, g := range ones() {
		for many := range api.MostWord + 1 {
			for _, of := range []string{"a", "b", "p", "ab", "ba", "aab", "abc", "cab"} {
				w := letters(as(of, many)[:many])
				builds(t, g, w)
				one(t, g, w, byParts(g, w))
			}
		}
	}
}

// P16.1, R6: of the empty word there are no rows behind, be that nil or an empty list, and be the word nil or one.
func TestOneOfNothing(t *testing.T) {
	for _, g := range ones() {
		want := byParts(g, nil)[0]
		for _, w := range [][]int{nil, {}, make([]int, 0, 3)} {
			for _, behind := range [][]span.Row{nil, {}, make([]span.Row, 0, 3)} {
				for range 2 {
					if row := span.One(g, w, behind); row != want {
						t.Errorf("One(%v, %v, %v): %v, not %v", g, w, behind, row, want)
					}
				}
			}
		}
	}
}

// P16.2: one word's rows may stand behind another one, if it goes on with that word.
func TestOneBehindOthers(t *testing.T) {
	g := grammar(3, "0: a 1 0; 0: b 2; 1: 0; 1: c; 2:; 2: 1 b")
	w := letters("cabcab")
	rows := span.Rows(g, w)
	for tok := range g.Terms {
		more := append([]int{tok}, w...)
		all := byParts(g, more)
		if row := span.One(g, more, rows); row != all[0] || !slices.Equal(rows, all[1:]) {
			t.Errorf("One(%v, %v, %v): %v, not %v", g, more, rows, row, all)
		}
	}
}

// R3, R5: what is told of one word changes nothing of what is told of another one, and a change of the arguments nothing of what was told.
func TestOneKeepsNothing(t *testing.T) {
	g, w := grammar(2, "0: a 1; 1: b 0; 1:"), letters("aba")
	want := rowsOf("13 0 | 0; - 02 | 1; 1 0 | 0; - 0 | 0 1")
	holds(t, g, w, want)
	rows := span.Rows(g, w)
	row := span.One(g, w, rows[1:])
	w[0], g.Prods[0].Right[0].N = 1, 1
	spoil(rows)
	if row != want[0] {
		t.Errorf("the row became %v", row)
	}
	tells(t, g, "bba", "1 02 |; 1 0 |; - 0 |; - 0 | 0 1")
	g = gram.Clone(g)
	g.Prods = g.Prods[:2]
	if l := span.Rows(g, w); l != nil {
		t.Errorf("Rows(%v, %v): %v", g, w, l)
	}
}
