package lower_test

import (
	"maps"
	"math/rand"
	"slices"
	"strconv"
	"strings"
	"testing"

	"probate/api"
	"probate/lower"
	"probate/rules"
)

// What follows works out a second time what is told of a tree, and what it means. Of a tree all tokens' Names are one byte here, so that a word of tokens is a text.

// words are texts, none longer than most.
type words map[string]bool

const most = 4

func behind(a, b words) words {
	l := words{}
	for u := range a {
		for v := range b {
			if len(u)+len(v) <= most {
				l[u+v] = true
			}
		}
	}
	return l
}

func both(a, b words) words {
	l := maps.Clone(a)
	maps.Copy(l, b)
	return l
}

// repeated are as many of some words as there are, or none.
func repeated(a words) words {
	l := words{"": true}
	for {
		more := both(l, behind(l, a))
		if len(more) == len(l) {
			return l
		}
		l = more
	}
}

// means tells the words that a node means, if each rule means those.
func means(x rules.Tree, node int, of map[string]words) words {
	n := x.Nodes[node]
	var l []words
	for _, k := range n.Kids {
		l = append(l, means(x, k, of))
	}
	all := words{}
	switch n.Kind {
	case rules.Call:
		return maps.Clone(of[n.Name])
	case rules.Term:
		return words{n.Name: true}
	case rules.Seq:
		all[""] = true
		for _, k := range l {
			all = behind(all, k)
		}
	case rules.Alt:
		for _, k := range l {
			all = both(all, k)
		}
	case rules.Star:
		all = repeated(l[0])
	case rules.Plus:
		all = behind(l[0], repeated(l[0]))
	case rules.Opt:
		all = both(l[0], words{"": true})
	}
	return all
}

// rulesMean tells the words that each rule means: over and over, till there are no more.
func rulesMean(x rules.Tree) map[string]words {
	of := map[string]words{}
	for _, r := range x.Rules {
		of[r.Name] = words{}
	}
	for {
		more := false
		for _, r := range x.Rules {
			l := means(x, r.Body, of)
			more = more || len(l) > len(of[r.Name])
			of[r.Name] = l
		}
		if !more {
			return of
		}
	}
}

// come tells the words that come of each nonterminal of a grammar: over and over, till there are no more.
func come(g api.Grammar, terms []string) []words {
	of := make([]words, g.Nons)
	for n := range of {
		of[n] = words{}
	}
	for more := true; more; {
		more = false
		for _, p := range g.Prods {
			l := words{"": true}
			for _, s := range p.Right {
				if s.Non {
					l = behind(l, of[s.N])
				} else {
					l = behind(l, words{terms[s.N]: true})
				}
			}
			for w := range l {
				more = more || !of[p.Left][w]
				of[p.Left][w] = true
			}
		}
	}
	return of
}

// worked is a grammar as lower_test.go writes it, worked out from the nodes' parents, and of each nonterminal the node for which it stands.
func worked(x rules.Tree) (heads []int, terms, prods []string) {
	parent := map[int]int{}
	for _, n := range x.Nodes {
		for _, k := range n.Kids {
			parent[k] = n.Kind
		}
		if n.Kind == rules.Term && !slices.Contains(terms, n.Name) {
			terms = append(terms, n.Name)
		}
	}
	symbol := map[int]string{}
	head := func(node int) {
		symbol[node] = " " + strconv.Itoa(len(heads))
		heads = append(heads, node)
	}
	for _, r := range x.Rules {
		head(r.Body)
	}
	for i, n := range x.Nodes {
		switch {
		case n.Kind == rules.Term:
			symbol[i] = " " + n.Name
		case n.Kind == rules.Call:
			symbol[i] = " " + strconv.Itoa(slices.IndexFunc(x.Rules, func(r rules.Rule) bool { return r.Name == n.Name }))
		case parent[i] == 0 || parent[i] == rules.Alt && n.Kind == rules.Seq: // a rule's body, or what has none
		default:
			head(i)
		}
	}
	for i, node := range heads {
		for _, right := range workedProds(x, node, " "+strconv.Itoa(i), symbol) {
			prods = append(prods, strconv.Itoa(i)+":"+right)
		}
	}
	return heads, terms, prods
}

// workedProds are what comes of a node of that nonterminal, as texts.
func workedProds(x rules.Tree, node int, self string, symbol map[int]string) []string {
	var each []string
	for _, k := range x.Nodes[node].Kids {
		each = append(each, symbol[k])
	}
	row := strings.Join(each, "")
	switch x.Nodes[node].Kind {
	case rules.Alt:
		for i, k := range x.Nodes[node].Kids {
			if x.Nodes[k].Kind == rules.Seq {
				each[i] = workedProds(x, k, self, symbol)[0]
			}
		}
		return each
	case rules.Star:
		return []string{row + self, ""}
	case rules.Plus:
		return []string{row + self, row}
	case rules.Opt:
		return []string{row, ""}
	case rules.Seq:
		return []string{row}
	}
	return []string{symbol[node]}
}

// isBig tells whether a grammar that was worked out may not be.
func isBig(heads []int, terms, prods []string) bool {
	long := func(p string) bool { return strings.Count(p, " ") > api.MostRight }
	return len(terms) > api.MostTerms || len(heads) > api.MostNons || len(prods) > api.MostProds || slices.ContainsFunc(prods, long)
}

// asWorked holds what is told of a tree against that, and tells whether it has a grammar.
func asWorked(t *testing.T, x rules.Tree) bool {
	t.Helper()
	heads, terms, prods := worked(x)
	if isBig(heads, terms, prods) {
		fails(t, strings.Join(prods, "; "), x, api.ErrBig)
		return false
	}
	tellsOf(t, x, len(heads), strings.Join(terms, " "), prods...)
	return true
}

// asMeant holds the words that come of a tree's grammar, of each nonterminal, against those that its node means, and tells those of the rules.
func asMeant(t *testing.T, x rules.Tree) map[string]words {
	t.Helper()
	g, terms, e := lower.Lower(x)
	if e != api.OK {
		t.Fatalf("%v: %d", x, e)
	}
	of, got := rulesMean(x), come(g, terms)
	heads, _, _ := worked(x)
	for n, node := range heads {
		if want := means(x, node, of); !maps.Equal(got[n], want) {
			t.Fatalf("%v: of nonterminal %d come %v, not %v", x, n, got[n], want)
		}
	}
	for i, r := range x.Rules {
		if !maps.Equal(got[i], of[r.Name]) {
			t.Fatalf("%v: of rule %d come %v, not %v", x, i, got[i], of[r.Name])
		}
	}
	return of
}

// meant holds the words of up to four tokens that come of a text's first rule, each parted by a space, - for the one without tokens.
func meant(t *testing.T, text, want string) {
	t.Helper()
	x := read(t, text)
	l := words{}
	for _, w := range strings.Fields(want) {
		l[strings.TrimPrefix(w, "-")] = true
	}
	if got := asMeant(t, x)[x.Rules[0].Name]; !maps.Equal(got, l) {
		t.Errorf("%q means %v, not %v", text, got, l)
	}
}

// P8.2: the words of each kind of node, by hand, and of rules that call each other.
func TestMeant(t *testing.T) {
	meant(t, "s: 'a';", "a")
	meant(t, "s: ;", "-")
	meant(t, "s: 'a' 'b';", "ab")
	meant(t, "s: 'a' | 'b';", "a b")
	meant(t, "s: 'a' | ;", "- a")
	meant(t, "s: | 'a' 'b' | 'c';", "- ab c")
	meant(t, "s: 'a'*;", "- a aa aaa aaaa")
	meant(t, "s: 'a'+;", "a aa aaa aaaa")
	meant(t, "s: 'a'?;", "- a")
	meant(t, "s: 'a'* 'b';", "b ab aab aaab")
	meant(t, "s: 'x' 'a'+;", "xa xaa xaaa")
	meant(t, "s: ('a' 'b')* 'c'?;", "- ab abab c abc")
	meant(t, "s: ('a'|'b')? 'c';", "c ac bc")
	meant(t, "s: ('a'?)+;", "- a aa aaa aaaa")
	meant(t, "s: ('a' 'a'+)*;", "- aa aaa aaaa")
	meant(t, "s: ()* 'a';", "a")
	meant(t, "s: t 'b'; t: 'a' | t 'a';", "ab aab aaab")
	meant(t, "s: 'a' s 'b' | ;", "- ab aabb")
	meant(t, "s: 'a' t | 'x'; t: 'b' s | 'y';", "x ay abx abay")
	meant(t, "s: t t; t: 'a' u | 'b'; u: 'c'? ;", "aa aac ab aca acac acb ba bac bb")
	meant(t, "s: 'a' t | 'b'; t: (u | s 'c')+ ; u: 'd' 'd' s?;", "b abc add addb")
}

// P8.2: of a rule that calls itself, and has no other way, no word comes, and none of what holds it.
func TestNoWord(t *testing.T) {
	meant(t, "s: s;", "")
	meant(t, "s: 'a' s;", "")
	meant(t, "s: s+;", "")
	meant(t, "s: t; t: s;", "")
	meant(t, "s: t 'a' | 'b'; t: 'a' t;", "b")
	meant(t, "s: t*; t: t;", "-")
	meant(t, "s: t? 'a'; t: t 'b' | 'b' t;", "a")
	meant(t, "s: t+ | 'a'+ t; t: 'b' t;", "")
	meant(t, "s: s*;", "-")
	meant(t, "s: s?;", "-")
	meant(t, "s: (s 'a')? ;", "- a aa aaa aaaa")
}

// P8.1, P8.2: a node of each kind in one of each kind, three levels deep, at each place.
func TestThreeLevels(t *testing.T) {
	level := []string{"s", "t", "'a'", "()"}
	for range 2 {
		var next []string
		for i, k := range level {
			other := level[(i+1)%len(level)]
			for _, form := range []string{"(k)*", "(k)+", "(k)?", "(k j)", "(j k)", "(k|j)", "(j|k)", "(j|k|)", "(j k|j)"} {
				next = append(next, strings.NewReplacer("k", k, "j", other).Replace(form))
			}
		}
		level = append(level, next...)
	}
	for _, text := range level {
		for _, form := range []string{"s:k;t:'b'|'a';", "t:'b' t|'a' s|;s:k;", "s:'b'|k;t:s t|'b';"} {
			x := read(t, strings.ReplaceAll(form, "k", text))
			if asWorked(t, x) {
				asMeant(t, x)
			} else {
				t.Errorf("%q is too big", text)
			}
		}
	}
}

// alternatives are any, of some depth at most.
func alternatives(r *rand.Rand, depth int) string {
	var b strings.Builder
	for i := range 1 + r.Intn(3)*r.Intn(2) {
		if i > 0 {
			b.WriteString("|")
		}
		for range r.Intn(4) {
			if k := r.Intn(9); k < 5 && depth > 0 {
				b.WriteString("(" + alternatives(r, depth-1) + ")")
			} else {
				b.WriteString([]string{"s ", "t ", "u ", "'a'", "'b'", "'c'"}[r.Intn(6)])
			}
			b.WriteString([]string{"", "", "*", "+", "?"}[r.Intn(5)])
		}
	}
	return b.String()
}

// P8.1, P8.2: any trees of three rules, some of which are too big.
func TestAny(t *testing.T) {
	r := rand.New(rand.NewSource(81))
	big, right := 0, 0
	for range 1500 {
		x, _, e := rules.Read("s:" + alternatives(r, 1+r.Intn(4)) + ";t:" + alternatives(r, 1+r.Intn(2)) + ";u:" + alternatives(r, 1) + ";")
		if e != api.OK {
			continue
		}
		if !asWorked(t, x) {
			big++
			continue
		}
		right++
		asMeant(t, x)
	}
	if big < 50 || right < 500 {
		t.Errorf("%d too big, %d not: too few to show anything", big, right)
	}
}
