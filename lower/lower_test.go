package lower_test

import (
	"slices"
	"strconv"
	"strings"
	"testing"

	"probate/api"
	"probate/gram"
	"probate/lower"
	"probate/rules"
)

// read is the tree of a text that is right.
func read(t *testing.T, text string) rules.Tree {
	t.Helper()
	x, at, e := rules.Read(text)
	if e != api.OK {
		t.Fatalf("Read(%q): %d, %d", text, at, e)
	}
	return x
}

// copied is a copy, made without the package.
func copied(x rules.Tree) rules.Tree {
	c := rules.Tree{Rules: slices.Clone(x.Rules), Nodes: slices.Clone(x.Nodes)}
	for i := range c.Nodes {
		c.Nodes[i].Kids = slices.Clone(c.Nodes[i].Kids)
	}
	return c
}

// written are a grammar's productions, a nonterminal by its number, a terminal by its Name.
func written(g api.Grammar, terms []string) []string {
	var l []string
	for _, p := range g.Prods {
		line := strconv.Itoa(p.Left) + ":"
		for _, s := range p.Right {
			if s.Non {
				line += " " + strconv.Itoa(s.N)
			} else {
				line += " " + terms[s.N]
			}
		}
		l = append(l, line)
	}
	return l
}

// tellsOf holds what a tree is lowered to, and that it stays as it was (R3); terms are the terminals, parted by spaces.
func tellsOf(t *testing.T, x rules.Tree, nons int, terms string, prods ...string) {
	t.Helper()
	before := copied(x)
	g, names, e := lower.Lower(x)
	if e != api.OK {
		t.Errorf("Lower of %v: %d", x, e)
		return
	}
	if got := written(g, names); !slices.Equal(got, prods) {
		t.Errorf("Lower of %v: %q, not %q", x, got, prods)
	}
	if g.Terms != len(names) || g.Nons != nons || g.Start != 0 || !gram.Right(g) {
		t.Errorf("Lower of %v: %d terminals, %d nonterminals, Start %d", x, g.Terms, g.Nons, g.Start)
	}
	if !slices.Equal(names, strings.Fields(terms)) {
		t.Errorf("Lower of %v: terminals %q, not %q", x, names, terms)
	}
	if !rules.Same(x, before) {
		t.Errorf("Lower changed %v to %v", before, x)
	}
}

func tells(t *testing.T, text string, nons int, terms string, prods ...string) {
	t.Helper()
	tellsOf(t, read(t, text), nons, terms, prods...)
}

// fails holds an error, beside which there is nothing (R2).
func fails(t *testing.T, what string, x rules.Tree, want api.Errno) {
	t.Helper()
	before := copied(x)
	g, names, e := lower.Lower(x)
	if e != want || names != nil || g.Terms != 0 || g.Nons != 0 || g.Start != 0 || g.Prods != nil {
		t.Errorf("Lower of %s: %v, %q, %d, not %d", what, g, names, e, want)
	}
	if !rules.Same(x, before) {
		t.Errorf("Lower changed %s", what)
	}
}

// P8.1: the chapter's example, symbol by symbol.
func TestExample(t *testing.T) {
	g, names, e := lower.Lower(read(t, "s: 'a'* 'b' ;"))
	want := api.Grammar{Terms: 2, Nons: 2, Start: 0, Prods: []api.Prod{
		{Left: 0, Right: []api.Sym{{Non: true, N: 1}, {N: 1}}},
		{Left: 1, Right: []api.Sym{{N: 0}, {Non: true, N: 1}}},
		{Left: 1},
	}}
	if !gram.Same(g, want) || !slices.Equal(names, []string{"a", "b"}) || e != api.OK {
		t.Errorf("%v, %q, %d", g, names, e)
	}
}

// P8.1: each kind of node, as a rule's body: it has no nonterminal but the rule's.
func TestBodies(t *testing.T) {
	tells(t, "s: s;", 1, "", "0: 0")
	tells(t, "s: 'a';", 1, "a", "0: a")
	tells(t, "s: ;", 1, "", "0:")
	tells(t, "s: 'a' s 'b';", 1, "a b", "0: a 0 b")
	tells(t, "s: 'a' | s;", 1, "a", "0: a", "0: 0")
	tells(t, "s: 'a'*;", 1, "a", "0: a 0", "0:")
	tells(t, "s: 'a'+;", 1, "a", "0: a 0", "0: a")
	tells(t, "s: 'a'?;", 1, "a", "0: a", "0:")
	tells(t, "s: s*;", 1, "", "0: 0 0", "0:")
	tells(t, "s: s+;", 1, "", "0: 0 0", "0: 0")
	tells(t, "s: s?;", 1, "", "0: 0", "0:")
}

// P8.1: each kind of node, as the body of a rule that isn't the first one: N is that rule.
func TestBodiesOfLaterRules(t *testing.T) {
	tells(t, "s: t; t: t;", 2, "", "0: 1", "1: 1")
	tells(t, "s: t; t: 'a';", 2, "a", "0: 1", "1: a")
	tells(t, "s: t; t: ;", 2, "", "0: 1", "1:")
	tells(t, "s: t; t: 'a' s;", 2, "a", "0: 1", "1: a 0")
	tells(t, "s: t; t: 'a' | s;", 2, "a", "0: 1", "1: a", "1: 0")
	tells(t, "s: t; t: 'a'*;", 2, "a", "0: 1", "1: a 1", "1:")
	tells(t, "s: t; t: 'a'+;", 2, "a", "0: 1", "1: a 1", "1: a")
	tells(t, "s: t; t: 'a'?;", 2, "a", "0: 1", "1: a", "1:")
}

// P8.1: a Seq of none is an Alt's first Kid, one in the middle, its last, or all.
func TestNothingAmongAlternatives(t *testing.T) {
	tells(t, "s: | 'a' | 'b';", 1, "a b", "0:", "0: a", "0: b")
	tells(t, "s: 'a' | | 'b';", 1, "a b", "0: a", "0:", "0: b")
	tells(t, "s: 'a' | 'b' |;", 1, "a b", "0: a", "0: b", "0:")
	tells(t, "s: 'a' s | ;", 1, "a", "0: a 0", "0:")
	tells(t, "s: | 'a' s;", 1, "a", "0:", "0: a 0")
	tells(t, "s: |;", 1, "", "0:", "0:")
	tells(t, "s: ||;", 1, "", "0:", "0:", "0:")
	tells(t, "s: 'x' (|'a');", 2, "x a", "0: x 1", "1:", "1: a")
	tells(t, "s: 'x' ('a'|);", 2, "x a", "0: x 1", "1: a", "1:")
}

// kid is a node in another one: its text, its symbol, and the productions of its own nonterminal, K, if it has one.
type kid struct {
	text, symbol string
	own          []string
}

// kids are of each kind but Seq.
func kids() []kid {
	return []kid{
		{"s", "0", nil},
		{"'a'", "a", nil},
		{"('a'|s)", "K", []string{"K: a", "K: 0"}},
		{"('a' 'b'||s)", "K", []string{"K: a b", "K:", "K: 0"}},
		{"('a'*)", "K", []string{"K: a K", "K:"}},
		{"('a'+)", "K", []string{"K: a K", "K: a"}},
		{"('a'?)", "K", []string{"K: a", "K:"}},
		{"(s*)", "K", []string{"K: 0 K", "K:"}},
		{"(s+)", "K", []string{"K: 0 K", "K: 0"}},
		{"(s?)", "K", []string{"K: 0", "K:"}},
	}
}

// filled are productions in which names were replaced.
func filled(prods []string, names ...string) []string {
	var l []string
	for _, p := range prods {
		l = append(l, strings.TrimRight(strings.NewReplacer(names...).Replace(p), " "))
	}
	return l
}

// quoted are the Quotes' Texts of a text, each once.
func quoted(text string) string {
	var l []string
	for i, piece := range strings.Split(text, "'") {
		if i%2 == 1 && !slices.Contains(l, piece) {
			l = append(l, piece)
		}
	}
	return strings.Join(l, " ")
}

// in holds what is told of a node, a text with k for its kid: productions, with k for the kid's symbol, and N for the node's nonterminal, which is a rule's, and one of its own.
func in(t *testing.T, k kid, node string, prods ...string) {
	t.Helper()
	text := strings.ReplaceAll(node, "k", k.text)
	own, symbol, nons := filled(k.own, "K", "1"), strings.ReplaceAll(k.symbol, "K", "1"), 1
	if own != nil {
		nons = 2
	}
	tells(t, "s:"+text+";", nons, quoted(text), append(filled(prods, "N", "0", "k", symbol), own...)...)
	n := strconv.Itoa(nons)
	behind := append(own, filled(prods, "N", n, "k", symbol)...)
	tells(t, "s:s("+text+")s;", nons+1, quoted(text), append([]string{"0: 0 " + n + " 0"}, behind...)...)
}

// P8.1: each kind of node in a Seq, Star, Plus and Opt: a Seq, too, has its own nonterminal there.
func TestKids(t *testing.T) {
	seqs := []kid{{"()", "K", []string{"K:"}}, {"('a' s)", "K", []string{"K: a 0"}}, {"('a' 'b' 'a')", "K", []string{"K: a b a"}}}
	for _, k := range append(kids(), seqs...) {
		in(t, k, "k 'z'", "N: k z")
		in(t, k, "'z' k", "N: z k")
		in(t, k, "'z' k s", "N: z k 0")
		in(t, k, "k*", "N: k N", "N:")
		in(t, k, "k+", "N: k N", "N: k")
		in(t, k, "k?", "N: k", "N:")
	}
}

// P8.1: each kind of node in an Alt: a Seq has no nonterminal of its own there, and its Kids' symbols stand in the Alt's production.
func TestKidsOfAlt(t *testing.T) {
	seqs := []kid{{"()", "", nil}, {"('a' s)", "a 0", nil}, {"'a' s", "a 0", nil}, {"('a' 'b' 'a')", "a b a", nil}}
	for _, k := range append(kids(), seqs...) {
		in(t, k, "k|'z'", "N: k", "N: z")
		in(t, k, "'z'|k", "N: z", "N: k")
		in(t, k, "|k|'z'", "N:", "N: k", "N: z")
		in(t, k, "'z' s|k|'z'", "N: z 0", "N: k", "N: z")
	}
}

// P8.1: what stands in an Alt's Seq has a nonterminal of its own, as in any Seq.
func TestKidsOfAltsSeq(t *testing.T) {
	tells(t, "s: ('a' 'b') 'c' | 'c';", 2, "a b c", "0: 1 c", "0: c", "1: a b")
	tells(t, "s: 'c' () | 'c';", 2, "c", "0: c 1", "0: c", "1:")
	tells(t, "s: 'a'* 'b'+ | ('a'|'b')? s;", 5, "a b", "0: 1 2", "0: 4 0", "1: a 1", "1:", "2: b 2", "2: b", "3: a", "3: b", "4: 3", "4:")
	tells(t, "s: ('a'|('b' s|)|)|'c';", 3, "a b c", "0: 2", "0: c", "1: b 0", "1:", "2: a", "2: 1", "2:")
}

// P8.1: the rules are numbered first, and then nodes by their numbers, whichever rule they stand in.
func TestOrderOfNonterminals(t *testing.T) {
	tells(t, "s: ('a'*)+ t; t: ('b'|s)?;", 5, "a b", "0: 3 1", "1: 4", "1:", "2: a 2", "2:", "3: 2 3", "3: 2", "4: b", "4: 0")
	tells(t, "s: 'a'; t: (s t)* s; u: (u? t)+ | ;", 8, "a",
		"0: a", "1: 4 0", "2: 7", "2:", "3: 0 1", "4: 3 4", "4:", "5: 2", "5:", "6: 5 1", "7: 6 7", "7: 6")
	tells(t, "s: ('a' ('b' ('c')*)+)?;", 5, "a b c", "0: 4", "0:", "1: c 1", "1:", "2: b 1", "3: 2 3", "3: 2", "4: a 3")
	tells(t, "s: (((s*)+)?)*;", 4, "", "0: 3 0", "0:", "1: 0 1", "1:", "2: 1 2", "2: 1", "3: 2", "3:")
	tells(t, "s: 'a'* 'a'* 'a'*;", 4, "a", "0: 1 2 3", "1: a 1", "1:", "2: a 2", "2:", "3: a 3", "3:")
}

// P8.1: a Call tells its rule: itself, an earlier and a later one, in each rule.
func TestCalls(t *testing.T) {
	tells(t, "s: s t u; t: s t u; u: s t u;", 3, "", "0: 0 1 2", "1: 0 1 2", "2: 0 1 2")
	tells(t, "a: c; b: a; c: b;", 3, "", "0: 2", "1: 0", "2: 1")
	tells(t, "t: 'a'; s: t | s 'a';", 2, "a", "0: a", "1: 0", "1: 1 a")
	tells(t, "a: b*; b: a+; A: b? | A;", 4, "", "0: 1 0", "0:", "1: 0 1", "1: 0", "2: 3", "2: 2", "3: 1", "3:")
	var text strings.Builder
	var prods []string
	for i := range api.MostNons {
		text.WriteString("r" + strconv.Itoa(i) + ": r" + strconv.Itoa(23-i) + " r" + strconv.Itoa(i) + ";")
		prods = append(prods, strconv.Itoa(i)+": "+strconv.Itoa(23-i)+" "+strconv.Itoa(i))
	}
	tells(t, text.String(), api.MostNons, "", prods...)
}

// P8.1: a Name is a terminal once, in the order of the first nodes that have it, whichever rule they stand in.
func TestTerminals(t *testing.T) {
	tells(t, "s: 'b' 'a' 'b' 'c' 'a';", 1, "b a c", "0: b a b c a")
	tells(t, "s: t 'c' | 'b'; t: 'a' | 'b' 'c' | 'd';", 2, "c b a d", "0: 1 c", "0: b", "1: a", "1: b c", "1: d")
	tells(t, "s: ('b'* 'a')? ; t: 'a' 'A' 'b';", 4, "b a A", "0: 3", "0:", "1: a A b", "2: b 2", "2:", "3: 2 a")
	tells(t, "s: 's' | s; s1: 's1' s 's';", 2, "s s1", "0: s", "0: 0", "1: s1 0 s")
	tells(t, "s: t | ; t: s s*;", 3, "", "0: 1", "0:", "1: 0 2", "2: 0 2", "2:")
	tells(t, "s: 'aa' 'a' 'aaa' 'a';", 1, "aa a aaa", "0: aa a aaa a")
}

// P8.1: a terminal's Name may hold what would be tokens of their own, and a rule's Name.
func TestTerminalsOfMarks(t *testing.T) {
	want := []string{" ", "a b", "|", "(", "a | b ;", ";", "  ", "s", "# x", "*", ":", "\""}
	text := "s: "
	for _, name := range want {
		text += "'" + name + "' | '" + want[0] + "' | "
	}
	g, names, e := lower.Lower(read(t, text+"s;"))
	if !slices.Equal(names, want) || g.Terms != len(want) || g.Nons != 1 || e != api.OK {
		t.Fatalf("%q, %v, %d", names, g, e)
	}
	for i := range want {
		for k, n := range []int{i, 0} {
			if p := g.Prods[2*i+k]; len(p.Right) != 1 || p.Right[0] != (api.Sym{N: n}) {
				t.Errorf("production %d: %v, not the terminal %d", 2*i+k, p, n)
			}
		}
	}
	if p := g.Prods[2*len(want)]; len(p.Right) != 1 || p.Right[0] != (api.Sym{Non: true}) {
		t.Errorf("%v", p)
	}
}

// P8.1: what is told of a Start is 0, whatever the rules' Names, and whatever calls what.
func TestStart(t *testing.T) {
	for _, text := range []string{"s: 'a';", "z: a; a: z;", "t: ; s: t;", "s: t; t: t; start: s;"} {
		if g, _, e := lower.Lower(read(t, text)); g.Start != 0 || e != api.OK {
			t.Errorf("%q: Start %d, %d", text, g.Start, e)
		}
	}
}

// R3: a change of what was told changes neither the tree nor what is told next (R4, R5), and no two lists of it share any.
func TestNothingIsKept(t *testing.T) {
	const text = "s: 'a' (s|'b' s)* | t+ 'b' s | ; t: ('a' 'b')? | 'a' 'b' t;"
	x := read(t, text)
	first, names, _ := lower.Lower(x)
	want, terms := written(first, names), slices.Clone(names)
	for range 3 {
		g, l, e := lower.Lower(x)
		if !slices.Equal(written(g, l), want) || !slices.Equal(l, terms) || e != api.OK {
			t.Fatalf("%v, %q, %d", g, l, e)
		}
		for i, p := range g.Prods {
			_ = append(p.Right, api.Sym{N: 77}, api.Sym{N: 77})
			if !slices.Equal(written(g, l), want) {
				t.Fatalf("what is put behind production %d changes %v", i, g)
			}
		}
		_, _ = append(g.Prods, api.Prod{Left: 9}), append(l, "x")
		for i := range g.Prods {
			clear(g.Prods[i].Right)
			g.Prods[i].Left = -1
		}
		clear(l)
		if !rules.Same(x, read(t, text)) || !slices.Equal(written(first, names), want) {
			t.Fatal("the tree, or an earlier answer, is changed")
		}
	}
	for i := range x.Nodes { // nor does a change of the tree change what was told
		clear(x.Nodes[i].Kids)
		x.Nodes[i] = rules.Node{}
	}
	clear(x.Rules)
	if !slices.Equal(written(first, names), want) || !slices.Equal(names, terms) {
		t.Error("what was told hangs on the tree")
	}
}

// R6: no list of Kids, and an empty one, are one; so are lists with room behind them, which stays as it was (R3).
func TestEmptyKids(t *testing.T) {
	x := read(t, "s: 'a' () s | () | ()*;")
	prods := []string{"0: a 1 0", "0:", "0: 3", "1:", "2:", "3: 2 3", "3:"}
	for i, n := range x.Nodes {
		x.Nodes[i].Kids = append(make([]int, 0, 9), n.Kids...)
	}
	tellsOf(t, x, 4, "a", prods...)
	for i, n := range x.Nodes {
		if room := n.Kids[:9]; slices.Max(room[len(n.Kids):]) != 0 {
			t.Errorf("behind the Kids of %d: %v", i, room)
		}
		if len(n.Kids) == 0 {
			x.Nodes[i].Kids = nil
		}
	}
	tellsOf(t, x, 4, "a", prods...)
}
