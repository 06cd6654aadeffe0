package follow_test

import (
	"math/rand"
	"slices"
	"strconv"
	"strings"
	"testing"

	"probate/api"
	"probate/follow"
	"probate/gram"
)

// What follows works out sets a second time, for each nonterminal from place to place of the productions; and once more the rows and the words themselves, from the productions alone.

// nothing tells whether nothing comes of a nonterminal by a tree of so many levels at most.
func nothing(g api.Grammar, non, levels int, known map[[2]int]bool) bool {
	at := [2]int{non, levels}
	is, ok := known[at]
	if levels == 0 || ok {
		return is
	}
	is = slices.ContainsFunc(g.Prods, func(p api.Prod) bool {
		return p.Left == non && !slices.ContainsFunc(p.Right, func(s api.Sym) bool {
			return !s.Non || !nothing(g, s.N, levels-1, known)
		})
	})
	known[at] = is
	return is
}

// nothings tells it of each nonterminal, by trees of any size: in the least one none stands below itself.
func nothings(g api.Grammar) []bool {
	known := map[[2]int]bool{}
	l := make([]bool, g.Nons)
	for non := range l {
		l[non] = nothing(g, non, g.Nons, known)
	}
	return l
}

// walk goes from place to place, and to none twice, and puts what it meets into a set.
type walk struct {
	g        api.Grammar
	may      []bool
	set      uint32
	ups      map[int]bool    // nonterminals behind whose places it went on
	downs    map[int]bool    // nonterminals into whose productions it went
	throughs map[[2]int]bool // places in productions
}

func newWalk(g api.Grammar, may []bool) *walk {
	return &walk{g: g, may: may, ups: map[int]bool{}, downs: map[int]bool{}, throughs: map[[2]int]bool{}}
}

// up goes on behind each place of a nonterminal.
func (w *walk) up(non int) {
	if w.ups[non] {
		return
	}
	w.ups[non] = true
	if non == w.g.Start {
		w.set |= set("$")
	}
	for i, p := range w.g.Prods {
		for at, s := range p.Right {
			if s.Non && s.N == non {
				w.through(i, at+1)
			}
		}
	}
}

// through goes on at a place of a production.
func (w *walk) through(prod, at int) {
	if w.throughs[[2]int{prod, at}] {
		return
	}
	w.throughs[[2]int{prod, at}] = true
	p := w.g.Prods[prod]
	if at == len(p.Right) {
		w.up(p.Left)
		return
	}
	if w.meet(p.Right[at]) {
		w.through(prod, at+1)
	}
}

// meet puts in what a symbol begins with, and tells whether it may be nothing.
func (w *walk) meet(s api.Sym) bool {
	if !s.Non {
		w.set |= 1 << s.N
		return false
	}
	if w.downs[s.N] {
		return w.may[s.N]
	}
	w.downs[s.N] = true
	for _, p := range w.g.Prods {
		if p.Left == s.N {
			w.row(p.Right)
		}
	}
	return w.may[s.N]
}

// row puts in what symbols begin with, and tells whether all of them may be nothing.
func (w *walk) row(l []api.Sym) bool {
	for _, s := range l {
		if !w.meet(s) {
			return false
		}
	}
	return true
}

// worked are the sets of a grammar.
func worked(g api.Grammar) []uint32 {
	l, may := make([]uint32, g.Nons), nothings(g)
	for non := range l {
		w := newWalk(g, may)
		w.up(non)
		l[non] = w.set
	}
	return l
}

// must is what the chapter's words put into the set of a nonterminal at a place, and whether all of another one's, too.
type must struct {
	non  int
	set  uint32
	all  bool
	left int
}

// musts are those of all places.
func musts(g api.Grammar) []must {
	var l []must
	may := nothings(g)
	for _, p := range g.Prods {
		for at, s := range p.Right {
			if s.Non {
				w := newWalk(g, may)
				all := w.row(p.Right[at+1:])
				l = append(l, must{s.N, w.set, all, p.Left})
			}
		}
	}
	return l
}

// stand tells whether the chapter's words are true of sets, but that they be the least.
func stand(g api.Grammar, l []uint32, of []must) bool {
	if l[g.Start]&set("$") == 0 {
		return false
	}
	for _, m := range of {
		in := m.set
		if m.all {
			in |= l[m.left]
		}
		if in&^l[m.non] != 0 {
			return false
		}
	}
	return true
}

// holds holds what is told of a grammar against what was worked out, and that it is of the grammar's terminals and the end alone, and has all that it must have.
func holds(t *testing.T, g api.Grammar) []uint32 {
	t.Helper()
	l := follow.Follow(g)
	if want := worked(g); !slices.Equal(l, want) {
		t.Fatalf("Follow(%v): %b, not %b", g, l, want)
	}
	if !stand(g, l, musts(g)) {
		t.Fatalf("Follow(%v): %b lacks something", g, l)
	}
	for _, of := range l {
		if of&^set("$")>>g.Terms != 0 {
			t.Fatalf("Follow(%v): %b of %d terminals", g, l, g.Terms)
		}
	}
	return l
}

// isLeast holds that no sets of which the chapter's words are true lack anything of those that are told, of all the sets that there are.
func isLeast(t *testing.T, g api.Grammar) {
	t.Helper()
	of, told := musts(g), follow.Follow(g)
	l := make([]uint32, g.Nons)
	wide := g.Terms + 1
	for bits := range uint32(1) << (g.Nons * wide) {
		for non := range l {
			l[non] = bits >> (non * wide) & (1<<g.Terms - 1)
			if bits>>(non*wide+g.Terms)&1 == 1 {
				l[non] |= set("$")
			}
		}
		if !stand(g, l, of) {
			continue
		}
		for non := range l {
			if told[non]&^l[non] != 0 {
				t.Fatalf("Follow(%v): %b, but %b are enough", g, told, l)
			}
		}
	}
}

// text is a row of symbols: numbers for nonterminals, letters for terminals.
func text(l []api.Sym) string {
	var b strings.Builder
	for _, s := range l {
		if s.Non {
			b.WriteString(strconv.Itoa(s.N))
		} else {
			b.WriteByte(byte('a' + s.N))
		}
	}
	return b.String()
}

func isNon(c byte) bool { return c >= '0' && c <= '9' }

// rows are those of so many symbols at most that come of Start through rows that are no longer: each nonterminal's place is taken by each of its productions.
func rows(g api.Grammar, most int) []string {
	l := []string{strconv.Itoa(g.Start)}
	seen := map[string]bool{l[0]: true}
	for i := 0; i < len(l); i++ {
		for at := range len(l[i]) {
			for _, p := range g.Prods {
				if l[i][at] != byte('0'+p.Left) {
					continue
				}
				next := l[i][:at] + text(p.Right) + l[i][at+1:]
				if len(next) <= most && !seen[next] {
					seen[next] = true
					l = append(l, next)
				}
			}
		}
	}
	return l
}

// ofRows are sets of what stands right behind each nonterminal in rows, and which nonterminals stand in one.
func ofRows(g api.Grammar, most int) ([]uint32, []bool) {
	l, there := make([]uint32, g.Nons), make([]bool, g.Nons)
	for _, row := range rows(g, most) {
		row += "$"
		for i := range len(row) - 1 {
			if !isNon(row[i]) {
				continue
			}
			non := row[i] - '0'
			there[non] = true
			if !isNon(row[i+1]) {
				l[non] |= set(row[i+1 : i+2])
			}
		}
	}
	return l, there
}

// words does something with each word that comes of Start by so many steps at most, the leftmost nonterminal first; behind the part that comes of nonterminal 0 stands A there, of 1 B, and so on.
func words(g api.Grammar, row string, steps int, do func(word string)) {
	at, many := len(row), 0
	for i := len(row) - 1; i >= 0; i-- {
		if isNon(row[i]) {
			at, many = i, many+1
		}
	}
	if many == 0 {
		do(row)
	}
	if many == 0 || many > steps { // each nonterminal takes a step
		return
	}
	for _, p := range g.Prods {
		if row[at] == byte('0'+p.Left) {
			words(g, row[:at]+text(p.Right)+string(rune('A'+p.Left))+row[at+1:], steps-1, do)
		}
	}
}

// ofWords are sets of what stands behind the parts of words that come of each nonterminal.
func ofWords(g api.Grammar, steps int) []uint32 {
	l := make([]uint32, g.Nons)
	words(g, strconv.Itoa(g.Start), steps, func(word string) {
		next := "$"
		for i := len(word) - 1; i >= 0; i-- {
			if c := word[i]; c >= 'a' {
				next = word[i : i+1]
			} else {
				l[c-'A'] |= set(next)
			}
		}
	})
	return l
}

// bits are how many there are in sets.
func bits(l []uint32) int {
	many := 0
	for _, of := range l {
		for ; of != 0; of &= of - 1 {
			many++
		}
	}
	return many
}

// shown holds that sets that were seen are in those that are told, and tells how many bits each have.
func shown(t *testing.T, g api.Grammar, seen []uint32) (int, int) {
	t.Helper()
	told := follow.Follow(g)
	for non, of := range seen {
		if of&^told[non] != 0 {
			t.Fatalf("Follow(%v): %b, but %b stand there", g, told, seen)
		}
	}
	return bits(told), bits(seen)
}

// alphabet are the symbols of so many terminals and nonterminals.
func alphabet(terms, nons int) []api.Sym {
	var l []api.Sym
	for n := range terms {
		l = append(l, api.Sym{N: n})
	}
	for n := range nons {
		l = append(l, non(n))
	}
	return l
}

// rights are all rows of these symbols, up to so many.
func rights(of []api.Sym, most int) [][]api.Sym {
	l := [][]api.Sym{nil}
	for i := 0; i < len(l); i++ {
		for _, s := range of {
			if len(l[i]) < most {
				l = append(l, append(slices.Clone(l[i]), s))
			}
		}
	}
	return l
}

// productions are all there are, of rights up to so many symbols.
func productions(terms, nons, most int) []api.Prod {
	var l []api.Prod
	for n := range nons {
		for _, r := range rights(alphabet(terms, nons), most) {
			l = append(l, api.Prod{Left: n, Right: r})
		}
	}
	return l
}

// each goes through all grammars of up to so many of these productions, in order.
func each(g api.Grammar, of []api.Prod, most int, do func(g api.Grammar)) {
	do(g)
	if len(g.Prods) == most {
		return
	}
	for _, p := range of {
		with := g
		with.Prods = append(slices.Clip(g.Prods), p)
		each(with, of, most, do)
	}
}

// P12.1, P12.2: all small grammars, their productions in each order.
func TestSmall(t *testing.T) {
	many := 0
	count := func(g api.Grammar) {
		many++
		holds(t, g)
	}
	each(api.Grammar{Terms: 2, Nons: 1}, productions(2, 1, 2), 4, count)
	each(api.Grammar{Terms: 1, Nons: 2, Start: 1}, productions(1, 2, 2), 3, count)
	each(api.Grammar{Terms: 2, Nons: 2}, productions(2, 2, 2), 3, count)
	each(api.Grammar{Terms: 1, Nons: 3, Start: 2}, productions(1, 3, 1), 4, count)
	each(api.Grammar{Terms: 1, Nons: 3, Start: 1}, productions(1, 3, 2), 2, count)
	each(api.Grammar{Terms: 1, Nons: 2}, productions(1, 2, 3), 2, count)
	each(api.Grammar{Nons: 2}, productions(0, 2, 2), 3, count)
	if many < 150000 {
		t.Errorf("%d grammars alone", many)
	}
}

// P12.2: no more than must be: of no set a terminal, or the end, may be left out.
func TestLeast(t *testing.T) {
	least := func(g api.Grammar) { isLeast(t, g) }
	each(api.Grammar{Terms: 2, Nons: 1}, productions(2, 1, 2), 3, least)
	each(api.Grammar{Terms: 1, Nons: 2, Start: 1}, productions(1, 2, 2), 3, least)
	each(api.Grammar{Terms: 2, Nons: 2}, productions(2, 2, 2), 3, least)
	each(api.Grammar{Terms: 1, Nons: 3, Start: 2}, productions(1, 3, 1), 3, least)
	each(api.Grammar{Terms: 1, Nons: 3}, productions(1, 3, 2), 2, least)
	each(api.Grammar{Nons: 3, Start: 1}, productions(0, 3, 2), 3, least)
}

// P12.2: in each row of symbols that comes of Start, what stands right behind a nonterminal is in its set; and if each nonterminal stands in one, no more is there than stands there.
func TestRows(t *testing.T) {
	all, grammars := 0, 0
	see := func(g api.Grammar) {
		wide := 1
		for _, p := range g.Prods {
			wide = max(wide, len(p.Right))
		}
		seen, there := ofRows(g, 3*wide) // of so few productions as here, rows of so many symbols show all
		had, stood := shown(t, g, seen)
		all += stood
		if slices.Contains(there, false) {
			return
		}
		grammars++
		if had != stood {
			t.Fatalf("Follow(%v): %b, but %b alone stand there", g, follow.Follow(g), seen)
		}
	}
	smallest(see)
	if all < 200000 || grammars < 40000 {
		t.Errorf("%d that stand in rows of %d grammars alone", all, grammars)
	}
}

// P12.2: in each word that comes of Start, what stands behind the part that comes of a nonterminal is in its set; and if of each nonterminal there is such a part, no more is there than stands behind them.
func TestWords(t *testing.T) {
	all, grammars := 0, 0
	see := func(g api.Grammar) {
		seen := ofWords(g, 10) // of so few productions as here, so many steps show all
		had, stood := shown(t, g, seen)
		all += stood
		if slices.Contains(seen, 0) {
			return
		}
		grammars++
		if had != stood {
			t.Fatalf("Follow(%v): %b, but %b alone stand there", g, follow.Follow(g), seen)
		}
	}
	smallest(see)
	if all < 80000 || grammars < 15000 {
		t.Errorf("%d that stand in words of %d grammars alone", all, grammars)
	}
}

// smallest goes through grammars of few productions, in order.
func smallest(do func(g api.Grammar)) {
	each(api.Grammar{Terms: 2, Nons: 1}, productions(2, 1, 2), 3, do)
	each(api.Grammar{Terms: 1, Nons: 2, Start: 1}, productions(1, 2, 2), 3, do)
	each(api.Grammar{Terms: 2, Nons: 2}, productions(2, 2, 2), 3, do)
	each(api.Grammar{Terms: 1, Nons: 3, Start: 2}, productions(1, 3, 1), 3, do)
	each(api.Grammar{Terms: 1, Nons: 3}, productions(1, 3, 2), 2, do)
	each(api.Grammar{Terms: 1, Nons: 2}, productions(1, 2, 3), 2, do)
}

// anyRow are symbols of any number up to so many; so many of a hundred are terminals.
func anyRow(r *rand.Rand, g api.Grammar, most, terms int) []api.Sym {
	var l []api.Sym
	for range r.Intn(most + 1) {
		if g.Terms > 0 && r.Intn(100) < terms {
			l = append(l, api.Sym{N: r.Intn(g.Terms)})
		} else {
			l = append(l, non(r.Intn(g.Nons)))
		}
	}
	return l
}

// anyOne is a grammar of any size, of which many nonterminals are nullable, or few.
func anyOne(r *rand.Rand) api.Grammar {
	g := api.Grammar{Terms: r.Intn(api.MostTerms + 1), Nons: 1 + r.Intn(api.MostNons)}
	g.Start = r.Intn(g.Nons)
	terms, none := 5+r.Intn(60), r.Intn(40)
	for range r.Intn(api.MostProds + 1) {
		p := api.Prod{Left: r.Intn(g.Nons)}
		if r.Intn(100) >= none {
			p.Right = anyRow(r, g, 1+r.Intn(api.MostRight), terms)
		}
		g.Prods = append(g.Prods, p)
	}
	return g
}

// P12.1, P12.2: any grammars, up to the limits.
func TestAny(t *testing.T) {
	r := rand.New(rand.NewSource(121))
	full, empty, ends, none := 0, 0, 0, 0
	for range 4000 {
		g := anyOne(r)
		before := gram.Clone(g)
		for non, of := range holds(t, g) {
			switch {
			case of == 0:
				empty++
			case of == set("$") && non != g.Start:
				none++
			case of&set("$") == 0:
				full++
			case of&(of-1) != 0:
				ends++
			}
		}
		if !gram.Same(g, before) {
			t.Fatalf("Follow changed %v to %v", before, g)
		}
	}
	for _, c := range []struct {
		what string
		n    int
	}{{"that are empty", empty}, {"of the end alone", none}, {"without the end", full}, {"of terminals and the end", ends}} {
		if c.n < 1000 {
			t.Errorf("%d sets %s: too few to show anything", c.n, c.what)
		}
	}
}
