package tree_test

import (
	"math/rand"
	"slices"
	"testing"

	"probate/api"
	"probate/gram"
	"probate/tree"
)

// What follows works out from the productions alone what a row of productions is, and what follows of it.

// worked is what Replay is to tell of a grammar that may be, by the chapter's words: each production takes the place of the leftmost nonterminal.
func worked(g api.Grammar, l []int) ([]int, api.Errno) {
	row := []api.Sym{{Non: true, N: g.Start}}
	if len(l) > api.MostSteps {
		return nil, api.ErrBig
	}
	for _, n := range l {
		at := slices.IndexFunc(row, func(s api.Sym) bool { return s.Non })
		if at < 0 || n < 0 || n >= len(g.Prods) || row[at].N != g.Prods[n].Left {
			return nil, api.ErrForm
		}
		row = slices.Concat(row[:at], g.Prods[n].Right, row[at+1:])
	}
	var w []int
	for _, s := range row {
		if s.Non {
			return nil, api.ErrShort
		}
		w = append(w, s.N)
	}
	return w, api.OK
}

// below puts a derivation's next node, and all below it, behind those that are there; it stands at a place, and what comes of it ends at the one that is told.
func below(g api.Grammar, l []int, at int, nodes *[]tree.Node) int {
	i := len(*nodes)
	var places []int
	*nodes = append(*nodes, tree.Node{})
	for _, s := range g.Prods[l[i]].Right {
		places = append(places, at)
		if s.Non {
			at = below(g, l, at, nodes)
		} else {
			at++
		}
	}
	(*nodes)[i] = tree.Node{Prod: l[i], At: append(places, at)}
	return at
}

// lies holds that a node, and all below it, is what comes of a nonterminal between two places, and tells the number of the next node.
func lies(t *testing.T, g api.Grammar, w []int, nodes []tree.Node, i, non, from, to int) int {
	n, next := nodes[i], i+1
	p := g.Prods[n.Prod]
	if p.Left != non || len(n.At) != len(p.Right)+1 || n.At[0] != from || n.At[len(p.Right)] != to || from < 0 || to > len(w) {
		t.Fatalf("node %d, %v, of %v isn't of %d from %d to %d", i, n, g, non, from, to)
	}
	for k, s := range p.Right {
		begins, ends := n.At[k], n.At[k+1]
		switch {
		case s.Non:
			next = lies(t, g, w, nodes, next, s.N, begins, ends)
		case ends != begins+1 || w[begins] != s.N:
			t.Fatalf("node %d, %v, of %v: symbol %d isn't the token at its place in %v", i, n, g, k, w)
		}
	}
	for _, inner := range nodes[i+1 : next] {
		if inner.At[0] < from || inner.At[len(inner.At)-1] > to {
			t.Fatalf("node %v, of %v, lies below %v, but not in it", inner, g, n)
		}
	}
	return next
}

// comes tells whether tokens (60 at most) come of a grammar: of each nonterminal and place, where what comes of it may end, is put in, till nothing is new.
func comes(g api.Grammar, w []int) bool {
	ends := make([][]uint64, g.Nons)
	for non := range ends {
		ends[non] = make([]uint64, len(w)+1)
	}
	for grown := true; grown; {
		grown = false
		for _, p := range g.Prods {
			for from := range ends[p.Left] {
				set := ends[p.Left][from] | through(w, p.Right, ends, 1<<from)
				grown = grown || set != ends[p.Left][from]
				ends[p.Left][from] = set
			}
		}
	}
	return ends[g.Start][0]>>len(w)&1 == 1
}

// through tells where symbols, one behind the other, may end that begin at one of some places.
func through(w []int, symbols []api.Sym, ends [][]uint64, at uint64) uint64 {
	for _, s := range symbols {
		next := uint64(0)
		for k := 0; k <= len(w); k++ {
			switch {
			case at>>k&1 == 0:
			case s.Non:
				next |= ends[s.N][k]
			case k < len(w) && w[k] == s.N:
				next |= 1 << (k + 1)
			}
		}
		at = next
	}
	return at
}

// holds holds all that is told of a row of productions against what was worked out, and tells the error.
func holds(t *testing.T, g api.Grammar, l []int) api.Errno {
	want, wantE := worked(g, l)
	w, e := tree.Replay(g, l)
	nodes, nodesE := tree.Nodes(g, l)
	if e != wantE || nodesE != wantE || !slices.Equal(w, want) {
		t.Fatalf("of %v, %v: %v, %v, and %v, not %v, %v", g, l, w, e, nodesE, want, wantE)
	}
	if e != api.OK {
		if len(w)+len(nodes) > 0 {
			t.Fatalf("of %v, %v: %v, and beside it %v, %v", g, l, e, w, nodes)
		}
		return e
	}
	var wantNodes []tree.Node
	if ends := below(g, l, 0, &wantNodes); ends != len(w) || !slices.EqualFunc(nodes, wantNodes, sameNode) {
		t.Fatalf("of %v, %v: %v, not %v", g, l, nodes, wantNodes)
	}
	if next := lies(t, g, w, nodes, 0, g.Start, 0, len(w)); next != len(l) {
		t.Fatalf("of %v, %v: %d nodes lie in the first one", g, l, next)
	}
	return e
}

// alone holds that no beginning of a derivation is one, nor what goes on behind it.
func alone(t *testing.T, g api.Grammar, l []int) {
	for many := range l {
		if _, e := tree.Replay(g, l[:many]); e != api.ErrShort {
			t.Fatalf("of %v: %v, of a beginning of the derivation %v, %v", g, e, l, l[:many])
		}
	}
	for more := -1; more <= len(g.Prods); more++ {
		longer := append(slices.Clip(l), more)
		if e := holds(t, g, longer); e != api.ErrForm {
			t.Fatalf("of %v: %v, of %v, which goes on behind the derivation %v", g, e, longer, l)
		}
	}
}

// rows goes through all rows of numbers between two up to so many, in order, as long as it is asked to go on with one.
func rows(l []int, from, to, most int, do func(l []int) bool) {
	if !do(l) || most == 0 {
		return
	}
	for n := from; n < to; n++ {
		rows(append(slices.Clip(l), n), from, to, most-1, do)
	}
}

// productions are all there are, of rights up to so many symbols.
func productions(terms, nons, most int) []api.Prod {
	var symbols []api.Sym
	for n := range terms {
		symbols = append(symbols, api.Sym{N: n})
	}
	for n := range nons {
		symbols = append(symbols, api.Sym{Non: true, N: n})
	}
	rights := [][]api.Sym{nil}
	for i := 0; i < len(rights); i++ {
		for _, s := range symbols {
			if len(rights[i]) < most {
				rights = append(rights, append(slices.Clone(rights[i]), s))
			}
		}
	}
	var l []api.Prod
	for n := range nons {
		for _, r := range rights {
			l = append(l, api.Prod{Left: n, Right: r})
		}
	}
	return l
}

// each goes through all grammars of up to so many of these productions, in order, each with each Start.
func each(g api.Grammar, of []api.Prod, most int, do func(g api.Grammar)) {
	for start := range g.Nons {
		g.Start = start
		do(g)
	}
	if len(g.Prods) == most {
		return
	}
	for _, p := range of {
		with := g
		with.Prods = append(slices.Clip(g.Prods), p)
		each(with, of, most, do)
	}
}

// count is how many rows there were of each error.
type count map[api.Errno]int

func (c count) enough(t *testing.T, many int) {
	t.Helper()
	for _, e := range []api.Errno{api.OK, api.ErrForm, api.ErrShort} {
		if c[e] < many {
			t.Errorf("%d rows with %v: too few to show anything", c[e], e)
		}
	}
}

// P15.1, P15.2: over small grammars, all rows of up to so many productions, with numbers that are none, too: what is told is what was worked out.
func TestAllRows(t *testing.T) {
	many := count{}
	all := func(beyond, most int) func(g api.Grammar) {
		return func(g api.Grammar) {
			rows(nil, -beyond, len(g.Prods)+beyond, most, func(l []int) bool {
				many[holds(t, g, l)]++
				return true
			})
		}
	}
	each(api.Grammar{Terms: 2, Nons: 1}, productions(2, 1, 2), 2, all(1, 5))
	each(api.Grammar{Terms: 2, Nons: 1}, productions(2, 1, 1), 3, all(1, 5))
	each(api.Grammar{Terms: 1, Nons: 1}, productions(1, 1, 3), 3, all(1, 3))
	each(api.Grammar{Terms: 1, Nons: 2}, productions(1, 2, 1), 3, all(1, 4))
	each(api.Grammar{Terms: 1, Nons: 2}, productions(1, 2, 2), 2, all(0, 6))
	each(api.Grammar{Nons: 2}, productions(0, 2, 2), 3, all(0, 4))
	each(api.Grammar{Nons: 3}, productions(0, 3, 1), 3, all(0, 4))
	many.enough(t, 10000)
}

// P15.2: over small grammars, all derivations of up to so many productions: the word comes of the grammar, and no derivation is the beginning of another one.
func TestAllDerivations(t *testing.T) {
	many, words := count{}, 0
	all := func(most int) func(g api.Grammar) {
		return func(g api.Grammar) {
			known := map[string]bool{}
			rows(nil, 0, len(g.Prods), most, func(l []int) bool {
				e := holds(t, g, l)
				many[e]++
				if e != api.OK {
					return e == api.ErrShort
				}
				alone(t, g, l)
				w, _ := tree.Replay(g, l)
				if name := nameOf(w); !known[name] {
					known[name] = true
					words++
					if !comes(g, w) {
						t.Fatalf("%v doesn't come of %v, but is the word of %v", w, g, l)
					}
				}
				return false
			})
		}
	}
	each(api.Grammar{Terms: 2, Nons: 1}, productions(2, 1, 2), 3, all(5))
	each(api.Grammar{Terms: 1, Nons: 1}, productions(1, 1, 3), 3, all(4))
	each(api.Grammar{Terms: 1, Nons: 2}, productions(1, 2, 2), 3, all(3))
	each(api.Grammar{Terms: 1, Nons: 2}, productions(1, 2, 2), 2, all(6))
	each(api.Grammar{Terms: 1, Nons: 3}, productions(1, 3, 1), 3, all(5))
	three := grammar(3, "0: 1 2; 1: a; 2: a 1")
	three.Terms = 1
	each(three, productions(1, 3, 2), 4, all(7))
	many.enough(t, 20000)
	if words < 20000 {
		t.Errorf("%d words: too few to show anything", words)
	}
}

// nameOf is a word as a text.
func nameOf(w []int) string {
	var text []byte
	for _, n := range w {
		text = append(text, byte('a'+n))
	}
	return string(text)
}

// anyOne is a grammar of any size; the first productions are one of no nonterminals for each nonterminal, by their numbers.
func anyOne(r *rand.Rand) api.Grammar {
	g := api.Grammar{Terms: 1 + r.Intn(api.MostTerms), Nons: 1 + r.Intn(api.MostNons)}
	g.Start = r.Intn(g.Nons)
	for non := range g.Nons {
		p := api.Prod{Left: non}
		for range r.Intn(3) {
			p.Right = append(p.Right, api.Sym{N: r.Intn(g.Terms)})
		}
		g.Prods = append(g.Prods, p)
	}
	for range r.Intn(api.MostProds + 1 - g.Nons) {
		p := api.Prod{Left: r.Intn(g.Nons)}
		for range r.Intn(api.MostRight + 1) {
			s := api.Sym{N: r.Intn(g.Terms)}
			if r.Intn(2) == 0 {
				s = api.Sym{Non: true, N: r.Intn(g.Nons)}
			}
			p.Right = append(p.Right, s)
		}
		g.Prods = append(g.Prods, p)
	}
	return g
}

// anyDerivation is one of up to so many productions: any ones, as long as there is room for what is left then.
func anyDerivation(r *rand.Rand, g api.Grammar, most int) []int {
	var l []int
	for left := []int{g.Start}; len(left) > 0; {
		non := left[0]
		of := gram.Of(g, non)
		n := of[r.Intn(len(of))]
		nons := nonsOf(g.Prods[n])
		if len(l)+len(left)+len(nons) > most {
			n, nons = non, nil
		}
		l, left = append(l, n), slices.Concat(nons, left[1:])
	}
	return l
}

// nonsOf are a production's nonterminals.
func nonsOf(p api.Prod) []int {
	var l []int
	for _, s := range p.Right {
		if s.Non {
			l = append(l, s.N)
		}
	}
	return l
}

// scratched is a row in which something is changed.
func scratched(r *rand.Rand, g api.Grammar, l []int) []int {
	l = slices.Clone(l)
	i := r.Intn(len(l))
	switch r.Intn(5) {
	case 0:
		l[i] = r.Intn(len(g.Prods)+2) - 1
	case 1:
		l = slices.Insert(l, i, r.Intn(len(g.Prods)))
	case 2:
		l = slices.Delete(l, i, i+1)
	case 3:
		k := r.Intn(len(l))
		l[i], l[k] = l[k], l[i]
	default:
		l = l[:i]
	}
	return l
}

// P15.1, P15.2: any grammars, up to the limits, and derivations of them, some of which are changed.
func TestAny(t *testing.T) {
	r := rand.New(rand.NewSource(151))
	many, long := count{}, 0
	for range 4000 {
		g := anyOne(r)
		most := 1 + r.Intn(120)
		if r.Intn(40) == 0 {
			most = api.MostSteps
		}
		l := anyDerivation(r, g, most)
		if e := holds(t, g, l); e != api.OK {
			t.Fatalf("%v isn't a derivation of %v: %v", l, g, e)
		}
		w, _ := tree.Replay(g, l)
		if len(w) <= 60 && !comes(g, w) {
			t.Fatalf("%v doesn't come of %v, but is the word of %v", w, g, l)
		}
		if len(w) > api.MostWord {
			long++
		}
		if len(l) < 200 {
			for range 5 {
				many[holds(t, g, scratched(r, g, l))]++
			}
		}
	}
	many.enough(t, 1000)
	if long < 200 {
		t.Errorf("%d long words: too few to show anything", long)
	}
}
