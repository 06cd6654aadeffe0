package closed_test

import (
	"slices"
	"strconv"
	"strings"
	"testing"

	"probate/api"
)

// piece is an item, and the place in whose set it is put.
type piece struct {
	at int
	it api.Item
}

// piecesOf are parted by ";": the place, and behind "@" the item.
func piecesOf(text string) []piece {
	var l []piece
	for _, one := range strings.Split(text, ";") {
		if at, it, ok := strings.Cut(one, "@"); ok {
			l = append(l, piece{number(at), setsOf(it)[0][0]})
		}
	}
	return l
}

// and are the least sets, with pieces, and all that follows.
func (c only) and(pieces ...piece) [][]api.Item {
	sets := least(c.g, letters(c.w))
	for _, p := range pieces {
		sets = with(sets, p.at, p.it)
	}
	return grown(c.g, letters(c.w), sets)
}

// within is a derivation one place behind, in a production of its own: what begins at a place and ends at another one does so one place later.
func within(c only, pieces []piece) (only, []piece) {
	g := c.g
	g.Prods = append(slices.Clip(g.Prods), api.Prod{Left: g.Nons, Right: []api.Sym{{N: 15}, {Non: true, N: g.Start}, {N: 15}}})
	g.Start, g.Nons = g.Nons, g.Nons+1
	var later []piece
	for _, p := range pieces {
		later = append(later, piece{p.at + 1, item(p.it.Prod, p.it.Dot, p.it.From+1)})
	}
	return only{g, "p" + c.w + "p", strconv.Itoa(len(c.g.Prods)) + " " + c.l}, later
}

// room holds what is told of a derivation in sets that have pieces, also where it begins at later places.
func room(t *testing.T, c only, pieces string, want ...string) {
	t.Helper()
	l := piecesOf(pieces)
	for range 3 {
		sets := c.and(l...)
		for _, p := range l {
			if !slices.Contains(sets[p.at], p.it) || wrong(c.g, p.at, p.it) != "" {
				t.Fatalf("%v can't be put", p)
			}
		}
		if len(want) == 0 {
			alone(t, c.g, letters(c.w), sets, numbers(c.l))
		} else {
			doubted(t, c.g, letters(c.w), sets, numbers(c.l), want...)
		}
		c, l = within(c, l)
	}
}

// nested has nodes from 0 to 4, 1 to 3, 2 to 3, and 4 to 4: of productions 0, 2, 7 and 5.
func nested() only {
	return only{of("0: a 1 b 2; 0: c; 1: d 3; 1: e e; 1:; 2:; 2: f; 3: g; 3: h h h; 3:; 0:"), "adgb", "0 2 7 5"}
}

// P19.1: of each node, a whole item, From where it begins, in the set of where it ends, of another production of its nonterminal.
func TestAnother(t *testing.T) {
	c := nested()
	room(t, c, "")
	room(t, c, "4@1.1.0", "another") // the first node
	room(t, c, "4@10.0.0", "another")
	room(t, c, "3@3.2.1", "another") // in the middle
	room(t, c, "3@4.0.1", "another") // a production of no symbols
	room(t, c, "3@8.3.2", "another")
	room(t, c, "3@9.0.2", "another")
	room(t, c, "4@6.1.4", "another") // the last node, of no tokens
	room(t, c, "4@1.1.0; 3@3.2.1; 3@9.0.2; 4@6.1.4", "another")
	room(t, only{of("0: 1; 1:; 1: a"), "", "0 1"}, "0@2.1.0", "another") // all nodes are of no tokens
	room(t, only{of("0: 1; 1:; 1: a; 0: b b"), "", "0 1"}, "0@3.2.0", "another")
	room(t, only{of("0:; 0: a"), "", "0"}, "0@1.1.0", "another") // one of no tokens is the only one
	room(t, only{of("0: a; 0:"), "a", "0"}, "1@1.0.0", "another")
	room(t, only{of("0: a; 0: a b"), "a", "0"}, "1@1.2.0", "another")
	room(t, only{of("0: a 0; 0: b"), "aab", "0 0 1"}, "3@1.1.0", "another")
	room(t, only{of("0: a 0; 0: b"), "aab", "0 0 1"}, "3@1.1.1", "another")
	room(t, only{of("0: a 0; 0: b"), "aab", "0 0 1"}, "3@0.2.2", "another")
	room(t, only{of("0: 1 1; 1: a; 1: b"), "aa", "0 1 1"}, "1@2.1.0", "another") // of one production twice
	room(t, only{of("0: 1 1; 1: a; 1: b"), "aa", "0 1 1"}, "2@2.1.1", "another")
	room(t, only{of("0: 1 1; 1: a; 1: b"), "ab", "0 1 2"}, "2@1.1.1", "another")
}

// P19.1: of a node, what is of another nonterminal, From another place, in another set, or not whole leaves it alone.
func TestNotAnother(t *testing.T) {
	c := nested()
	for _, pieces := range []string{
		"3@8.3.1", "3@6.1.1", "3@9.0.1", "3@5.0.1", "3@6.1.2", "4@6.1.0", "4@8.3.0", "4@5.0.0", "4@3.2.4", "4@4.0.4", "4@9.0.4", // of another nonterminal
		"4@1.1.1", "4@10.0.2", "3@3.2.0", "3@3.2.2", "3@3.2.3", "3@4.0.0", "3@4.0.2", "3@8.3.0", "3@8.3.1", "3@8.3.3", "4@6.1.1", "4@6.1.3", "4@6.1.0", // From another place
		"0@1.1.0", "1@1.1.0", "3@1.1.0", "3@10.0.0", "1@3.2.1", "2@3.2.1", "4@3.2.1", "4@4.0.1", "2@8.3.2", "4@8.3.2", "4@9.0.2", "3@6.1.3", "2@6.1.2", // in another set
		"4@1.0.0", "3@3.1.1", "3@3.0.1", "3@8.2.2", "3@8.1.2", "3@8.0.2", "4@6.0.4", // not whole
		"4@0.4.0; 3@2.2.1; 3@7.1.2; 4@5.0.4", // the node's own items
	} {
		room(t, c, pieces)
	}
	for _, pieces := range []string{"0@1.0.0", "0@2.0.0", "0@0.0.0"} {
		room(t, only{of("0: 1; 1:; 1: a"), "", "0 1"}, pieces)
	}
	for _, pieces := range []string{"0@1.1.0", "2@1.1.0", "3@0.2.0", "3@0.2.1", "3@1.1.2", "2@0.2.0", "2@1.1.1", "3@1.0.0", "3@1.0.1", "3@0.1.2", "1@0.2.1", "1@1.1.1"} {
		room(t, only{of("0: a 0; 0: b"), "aab", "0 0 1"}, pieces)
	}
	for _, pieces := range []string{"2@1.1.0", "2@2.1.0", "0@1.1.0", "0@2.1.0", "2@2.1.2", "2@1.1.2", "1@2.0.0", "2@2.0.1"} {
		room(t, only{of("0: 1 1; 1: a; 1: b"), "aa", "0 1 1"}, pieces)
	}
}

// flat has one node from 0 to 4, of production 0, and in it such of productions 1, 3 and 5, from 0 to 1, 1 to 2, and 3 to 4.
func flat() only {
	return only{of("0: 1 2 b 3; 1: a; 1: c c; 2: d; 2: c a; 3: e; 3: f f; 0: 1 3 g; 0: 4 1; 4: g; 0: 1 2 2 g"), "adbe", "0 1 3 5"}
}

// P19.1: of each symbol that is a nonterminal, an item of the node's production with its Dot, From where the node begins, in the set of another place than where it begins, and a whole item of it From there, in the set of where it ends.
func TestElsewhere(t *testing.T) {
	c := flat()
	room(t, c, "")
	room(t, c, "1@0.0.0; 1@1.1.1", "elsewhere") // the first symbol, which begins at 0 and ends at 1
	room(t, c, "1@0.0.0; 1@2.2.1", "elsewhere")
	room(t, c, "0@0.1.0; 2@3.1.0", "elsewhere") // the middle one, which begins at 1 and ends at 2
	room(t, c, "0@0.1.0; 2@4.2.0", "elsewhere")
	room(t, c, "2@0.1.0; 2@3.1.2", "elsewhere")
	room(t, c, "2@0.1.0; 2@4.2.2", "elsewhere")
	room(t, c, "0@0.3.0; 4@5.1.0", "elsewhere") // the last one, which begins at 3 and ends at 4
	room(t, c, "1@0.3.0; 4@5.1.1", "elsewhere")
	room(t, c, "2@0.3.0; 4@5.1.2", "elsewhere")
	room(t, c, "4@0.3.0; 4@5.1.4", "elsewhere")
	room(t, c, "0@0.3.0; 4@6.2.0", "elsewhere")
	room(t, c, "1@0.3.0; 4@6.2.1", "elsewhere")
	room(t, c, "2@0.3.0; 4@6.2.2", "elsewhere")
	room(t, c, "4@0.3.0; 4@6.2.4", "elsewhere")
	room(t, c, "1@0.3.0; 2@0.3.0; 4@6.2.2", "elsewhere") // one place of several
	room(t, c, "1@0.3.0; 4@6.2.1; 4@5.1.0; 4@5.1.2", "elsewhere")
	room(t, c, "1@0.3.0; 4@6.2.1; 4@6.2.3", "another", "elsewhere")                                       // and both
	room(t, only{of("0: 1; 1: a"), "a", "0 1"}, "1@0.0.0; 1@1.1.1", "elsewhere")                          // the only symbol
	room(t, only{of("0: 1; 1:"), "", "0 1"}, "")                                                          // of no tokens: there is no other place
	room(t, only{of("0: a 1; 1:"), "a", "0 1"}, "0@0.1.0; 1@1.0.0", "elsewhere")                          // what comes to nothing ends where it begins
	room(t, only{of("0: a 1; 1:; 1: b"), "a", "0 1"}, "0@0.1.0; 1@2.1.0", "elsewhere")                    // likewise
	room(t, only{of("0: 1 2; 1: a; 2:"), "a", "0 1 2"}, "0@0.1.0; 1@2.0.0", "elsewhere")                  // likewise
	room(t, only{of("0: 1 2; 1: a; 2: b; 2:"), "ab", "0 1 2"}, "2@0.1.0", "elsewhere")                    // what comes to nothing is whole wherever it is next
	room(t, only{of("0: 1 a; 1:"), "a", "0 1"}, "1@0.0.0; 0@1.0.0")                                       // behind the symbol's end
	room(t, only{of("0: a 0; 0: b"), "aab", "0 0 1"}, "0@0.1.0; 3@1.1.0", "another", "elsewhere")         // in the first node
	room(t, only{of("0: a 0; 0: b"), "aab", "0 0 1"}, "3@0.1.0; 3@1.1.3", "elsewhere")                    // likewise
	room(t, only{of("0: a 0; 0: b"), "aab", "0 0 1"}, "3@0.1.1; 3@1.1.3", "elsewhere")                    // in the second one
	room(t, only{of("0: 1 2; 1: a; 1: a a; 2: a; 2: b"), "ab", "0 1 4"}, "2@0.1.0; 2@3.1.2", "elsewhere") // by what the word doesn't have
}

// P19.1: where one part alone of that is another one, the derivation is alone.
func TestNotElsewhere(t *testing.T) {
	c := flat()
	for _, pieces := range []string{
		"1@0.0.0", "0@0.1.0", "2@0.1.0", "0@0.3.0", "1@0.3.0", "2@0.3.0", "4@0.3.0", // no whole item
		"1@1.1.1", "1@2.2.1", "2@3.1.0", "2@4.2.0", "2@3.1.2", "4@5.1.0", "4@5.1.1", "4@6.2.0", "4@6.2.2", "4@6.2.4", // no item ahead of it
		"2@0.0.0; 1@1.1.1", "4@0.0.0; 1@1.1.1", "0@0.3.0; 4@6.2.1", "1@0.3.0; 4@6.2.2", "2@0.3.0; 4@6.2.0", "4@0.3.0; 4@6.2.2", "0@0.1.0; 2@3.1.2", "2@0.1.0; 2@3.1.0", // another place
		"0@0.0.0; 4@5.1.0", "0@0.1.0; 4@5.1.0", "0@0.2.0; 4@5.1.0", "1@0.0.0; 4@6.2.1", "1@0.1.0; 4@6.2.1", "1@0.2.0; 4@6.2.1", "1@0.2.0; 1@0.4.0; 4@6.2.1", // another Dot
		"0@0.0.0; 2@3.1.0", "0@0.2.0; 2@3.1.0", "0@0.3.0; 2@3.1.0", "2@0.0.0; 2@3.1.2", "2@0.3.0; 2@3.1.2", "1@0.2.0; 1@1.1.1", // another Dot
		"1@0.3.1; 4@5.1.1", "2@0.3.1; 4@5.1.2", "2@0.3.2; 4@6.2.2", "2@0.1.1; 2@3.1.2", "2@0.1.2; 2@3.1.2", "1@0.0.1; 1@1.1.1", "1@0.0.1; 1@2.2.1", // another From
		"0@7.1.0; 4@5.1.0", "1@7.1.0; 4@5.1.1", "2@7.1.0; 4@6.2.2", "4@7.1.0; 4@5.1.4", "2@10.1.0; 2@3.1.2", "0@10.1.0; 2@3.1.0", "2@10.2.0; 2@3.1.2", "1@7.0.0; 1@1.1.1", // another production
		"2@0.0.0; 2@1.1.2", "3@0.1.0; 3@3.1.3", "4@0.1.0; 4@4.2.4", "2@0.0.0; 2@2.2.2", // behind the symbol's end
		"0@0.3.0; 4@1.1.0", "1@0.3.0; 4@3.1.1", "2@0.3.0; 4@4.2.2", "4@0.3.0; 4@9.1.4", "2@0.1.0; 2@5.1.2", "2@0.1.0; 2@1.1.2", "0@0.1.0; 2@9.1.0", "1@0.0.0; 1@3.1.1", // of another nonterminal
		"0@0.3.0; 4@6.2.1", "1@0.3.0; 4@5.1.2", "2@0.3.0; 4@5.1.1", "1@0.3.0; 4@5.1.4", // From another place
		"0@0.3.0; 2@5.1.0", "1@0.3.0; 3@5.1.1", "2@0.3.0; 2@6.2.2", "2@0.3.0; 3@6.2.2", "0@0.1.0; 1@3.1.0", "0@0.1.0; 3@3.1.0", "2@0.1.0; 3@3.1.2", "1@0.0.0; 2@1.1.1", "1@0.0.0; 3@1.1.1", // in another set
		"0@0.3.0; 4@5.0.0", "1@0.3.0; 4@6.1.1", "2@0.3.0; 4@6.1.2", "2@0.1.0; 2@4.1.2", "0@0.1.0; 2@4.1.0", "1@0.0.0; 1@2.1.1", // not whole
		"0@0.0.0; 1@1.1.0; 1@0.1.0; 2@3.1.1; 3@0.3.0; 4@5.1.3", // the place at which the symbol begins
	} {
		room(t, c, pieces)
	}
}

// P19.1: a terminal leads from one ahead of its end alone, at which it begins: no item of the node's production ahead of it leaves room.
func TestTerminals(t *testing.T) {
	room(t, only{of("0: a a a"), "aaa", "0"}, "1@0.0.0")
	room(t, only{of("0: a a a"), "aaa", "0"}, "2@0.0.0")
	room(t, only{of("0: a a a"), "aaa", "0"}, "0@0.1.0")
	room(t, only{of("0: a a a"), "aaa", "0"}, "0@0.2.0; 1@0.1.0; 2@0.2.0; 3@0.1.0; 3@0.3.0; 3@0.2.0; 3@0.0.0; 0@0.1.0; 0@0.3.0")
	room(t, only{of("0: a b a; 0: a a"), "aba", "0"}, "0@0.2.0; 1@0.0.0; 1@0.2.0; 2@0.0.0; 3@0.2.0")
	room(t, only{of("0: a 1 a; 1: a"), "aaa", "0 1"}, "0@0.2.0; 1@0.2.0; 1@0.0.0; 2@0.0.0; 3@0.0.0; 3@0.2.0; 2@1.0.1")
	room(t, only{of("0: a b c d e f g h"), "abcdefgh", "0"}, "0@0.7.0; 1@0.6.0; 2@0.5.0; 3@0.4.0; 4@0.3.0; 5@0.2.0; 6@0.1.0; 7@0.0.0; 8@0.7.0; 7@0.6.0")
	for k := range api.MostRight { // all terminals alike, at each place
		g, w := of("0:"+as(" a", api.MostRight)), as("a", api.MostRight)
		for m := range api.MostRight + 1 {
			c := only{g, w, "0"}
			alone(t, g, letters(w), c.and(piece{m, item(0, k, 0)}), numbers("0"))
		}
	}
	// what else a token is the beginning of leaves room, though
	room(t, only{of("0: a 1; 1: b; 1: b b"), "ab", "0 1"}, "2@2.2.1", "another")
	room(t, only{of("0: a a 1; 1: b"), "aab", "0 1"}, "1@0.2.0; 3@1.1.1", "elsewhere")
	room(t, only{of("0: a a 1; 1: b"), "aab", "0 1"}, "0@0.1.0; 3@1.1.1", "elsewhere")
}

// P19.1: of productions of as many symbols as may be, each symbol and each place.
func TestEachSymbol(t *testing.T) {
	for k := range api.MostRight {
		symbols := strings.Fields(as("a ", api.MostRight))
		symbols[k] = "1"
		c := only{of("0: " + strings.Join(symbols, " ") + "; 1: b; 1: c"), as("a", k) + "b" + as("a", api.MostRight-k-1), "0 1"}
		for m := range api.MostRight + 1 {
			for from := range m + 1 {
				for end := from; end <= api.MostRight; end++ {
					sets := c.and(piece{m, item(0, k, 0)}, piece{end, item(2, 1, from)})
					want := m != k && m <= k+1 && from == m && end == k+1
					if from == k && end == k+1 {
						doubted(t, c.g, letters(c.w), sets, numbers(c.l), "another")
					} else if want {
						doubted(t, c.g, letters(c.w), sets, numbers(c.l), "elsewhere")
					} else {
						says(t, c.g, letters(c.w), sets, true)
						tells(t, c.g, letters(c.w), sets, numbers(c.l), len(doubts(c.g, letters(c.w), sets, numbers(c.l))) == 0)
					}
				}
			}
		}
	}
}

// P19.1: of each node and each symbol of some derivations, each item more, and each two, with all that follows.
func TestEachPiece(t *testing.T) {
	counts := map[string]int{}
	holds := func(c only, sets [][]api.Item) {
		t.Helper()
		why := doubts(c.g, letters(c.w), sets, numbers(c.l))
		counts[strings.Join(why, " ")]++
		tells(t, c.g, letters(c.w), sets, numbers(c.l), len(why) == 0)
	}
	for _, c := range append(onlyOnes(), nested(), flat()) {
		all := full(c.g, len(c.w)+1)
		for at := range all {
			for _, it := range all[at] {
				sets := c.and(piece{at, it})
				holds(c, sets)
			}
		}
	}
	for _, c := range []only{
		{of("0: 1 2; 1: a; 2: b"), "ab", "0 1 2"}, {of("0: a 0; 0:"), "a", "0 1"}, {of("0: 1 1; 1: a; 1:"), "", "0 2 2"}, {of("0: a 1; 1: b; 1: 2; 2: c"), "ac", "0 2 3"}, {of("0: 1 a; 1: b"), "ba", "0 1"},
		{of("0: 1 2 1; 1: a; 1:; 2: b"), "b", "0 2 3 2"}, {of("0: 1 1; 1: a; 1: b"), "ab", "0 1 2"}, {of("0: 0 a; 0: b"), "ba", "0 1"}, {of("0: 1 2; 1: a; 1: 2; 2: b"), "bb", "0 2 3 3"}, {of("0: 1; 1: 2; 2: a; 2:"), "a", "0 1 2"},
	} {
		all := full(c.g, len(c.w)+1)
		for at := range all {
			for _, it := range all[at] {
				for place := at; place < len(all); place++ {
					for _, other := range all[place] {
						holds(c, c.and(piece{at, it}, piece{place, other}))
					}
				}
			}
		}
	}
	if counts[""] < 5000 || counts["another"] < 500 || counts["elsewhere"] < 200 || counts["another elsewhere"] < 5 || len(counts) != 4 {
		t.Errorf("%v: too few to show anything, or another doubt", counts)
	}
}
