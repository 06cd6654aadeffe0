package lead_test

import (
	"math"
	"slices"
	"testing"

	"probate/api"
	"probate/gram"
	"probate/lead"
	"probate/span"
)

// asked are grammars of which By and Lead are asked; what the last one tells would take too long to be worked out.
func asked() []api.Grammar {
	return []api.Grammar{
		of("0: a 0; 0:"),
		of("0: a 0 b 0; 0:"),
		of("0: a a a a a a a a"),
		of("0: 1 1; 1: a 1; 1: b"),
		of("0: 1 2 0; 0: 2; 1: a; 1: b 1 a; 2:; 2: c"),
		of("0: 1 2 3; 1: 2 2; 2: 3 3; 3: a; 3: b; 3:"),
		of("0: a 0; 0: a a 0; 0: b 0; 0: b a 0; 0: c"),
		from(3, of("3: 0 1 2 3 c; 3: 1; 0: a; 1: b; 2:; 2: a b")),
		sized("a", "b", api.MostSteps),
		sized("a b", "", api.MostSteps+1),
		eights("a"),
	}
}

// P17.1: By tells by the rows that span tells what Lead tells, of words of each number of tokens from none to MostWord: also by rows that were told one by one, and by those of a longer word that ends so.
func TestByOfEachNumber(t *testing.T) {
	for _, g := range asked() {
		for many := range api.MostWord + 1 {
			for _, cycle := range []string{"a", "b", "p", "ab", "ba", "aab", "abc", "cab"} {
				w := letters(as(cycle, many)[:many])
				rows, longer := []span.Row{}, span.Rows(g, slices.Concat([]int{1, 0, 2}, w)[max(0, many+3-api.MostWord):])
				for at := many; at >= 0; at-- {
					rows = slices.Insert(rows, 0, span.One(g, w[at:], rows))
				}
				for _, kind := range kinds {
					l, e := lead.Lead(g, w, kind)
					by(t, g, w, kind, span.Rows(g, w), l, e)
					by(t, g, w, kind, rows, l, e)
					by(t, g, w, kind, longer[len(longer)-many-1:], l, e)
				}
			}
		}
	}
}

// P17.1: what Lead tells of these words is what is worked out, in each kind, be it a derivation or why there is none.
func TestLeadOfEachNumber(t *testing.T) {
	told := map[api.Errno]int{}
	for _, g := range asked()[:len(asked())-1] {
		for many := range api.MostWord + 1 {
			for _, cycle := range []string{"a", "b", "ab", "ba", "aab", "abc"} {
				w := letters(as(cycle, many)[:many])
				for _, kind := range kinds {
					own, e := byParts(g, w, kind)
					holds(t, g, w, kind, own, e)
					told[e]++
				}
			}
		}
	}
	if told[api.OK] < 300 || told[api.ErrNone] < 300 || told[api.ErrBig] < 10 {
		t.Errorf("told are %v: too few to show anything", told)
	}
}

// P17.1, R6: of the empty word, be it nil or an empty list, by its one row.
func TestByOfNothing(t *testing.T) {
	for _, g := range asked() {
		for _, kind := range kinds {
			want, e := byParts(g, nil, kind)
			for _, w := range [][]int{nil, {}, make([]int, 0, 3)} {
				by(t, g, w, kind, []span.Row{span.One(g, nil, nil)}, want, e)
			}
		}
	}
}

// R3, R5: a change of the arguments, and of what was told, changes nothing of what is told of others, and nothing of what was told.
func TestNothingIsKept(t *testing.T) {
	g, w := of("0: 1 1; 1: a; 1: a a; 1: b"), letters("aaa")
	rows := span.Rows(g, w)
	least, _ := lead.Lead(g, w, lead.Least)
	greatest, _ := lead.By(g, w, lead.Greatest, rows)
	begin, _ := lead.By(g, w, lead.Begin, rows)
	w[1], w = 1, w[:2]
	for i := range rows {
		rows[i] = span.Row{}
	}
	both(t, g, "ab", "0 1 3", "0 1 3")
	g.Prods[1].Right[0].N, g.Prods[0].Right = 1, g.Prods[0].Right[:1]
	both(t, g, "b", "0 1", "0 3")
	g.Prods = g.Prods[:2]
	both(t, g, "b", "0 1", "0 1")
	if !slices.Equal(least, numbers("0 1 2")) || !slices.Equal(greatest, numbers("0 2 1")) || !slices.Equal(begin, numbers("0 1 2")) {
		t.Errorf("what was told became %v, %v, %v", least, greatest, begin)
	}
	spoil(least)
	both(t, of("0: 1 1; 1: a; 1: a a; 1: b"), "aaa", "0 1 2", "0 2 1")
}

// ends holds that By neither panics nor changes anything, of whatever arguments, of some of which the chapter doesn't speak; what it tells is a list and OK, or none and an error.
func ends(t *testing.T, g api.Grammar, w []int, kind int, rows []span.Row) {
	t.Helper()
	oldG, oldW, old := gram.Clone(g), slices.Clone(w), slices.Clone(rows)
	l, e := lead.By(g, w, kind, rows)
	again, same := lead.By(g, w, kind, rows)
	if (l == nil) != (e != api.OK) || len(l) > api.MostSteps || e != same || !slices.Equal(l, again) {
		t.Fatalf("By(%v, %v, %d, %v): %v, %v, and then %v, %v", g, w, kind, rows, shorter(l), e, shorter(again), same)
	}
	if !gram.Same(g, oldG) || !slices.Equal(w, oldW) || !slices.Equal(rows, old) {
		t.Fatalf("By: of %v, %v, %v became %v, %v, %v", oldG, oldW, old, g, w, rows)
	}
}

// otherRows are rows that may not be those of a word of so many tokens.
func otherRows(many int) [][]span.Row {
	full := span.Row{Over: math.MaxUint32}
	for non := range full.Ends {
		full.Ends[non] = math.MaxUint32
	}
	over, end := span.Row{Over: math.MaxUint32}, full
	end.Over = 0
	l := [][]span.Row{nil, {}, make([]span.Row, 1000)}
	for _, row := range []span.Row{{}, full, over, end} {
		for _, rows := range []int{many, many + 1, many + 2} {
			l = append(l, slices.Repeat([]span.Row{row}, rows))
		}
	}
	return l
}

// R1: of arguments of which the chapter doesn't speak By ends, too: rows that aren't the word's, words that have none, grammars that may not be, or aren't sound, and other kinds.
func TestByOfOthers(t *testing.T) {
	grammars := append(asked(), of("0: 0; 0: a"), of("0: 0 0 a"), of("0: 1 0; 1:"), of("0: a 1; 1: 1 1; 1:"), grammar(1, ""), grammar(2, "0: a 1; 0: b"), of("0:; 1: a"))
	for _, g := range mayNot() {
		grammars = append(grammars, g)
	}
	words := [][]int{nil, {0}, {1, 0}, {-1}, {math.MinInt, math.MaxInt}, letters(as("ab", api.MostWord/2)), make([]int, api.MostWord+1), make([]int, 40)}
	for _, g := range grammars {
		for _, w := range words {
			for _, rows := range otherRows(len(w)) {
				for _, kind := range []int{lead.Least, lead.Greatest, lead.Begin, -1, 3, math.MinInt, math.MaxInt} {
					ends(t, g, w, kind, rows)
				}
			}
		}
	}
}
