package tree_test

import (
	"slices"
	"strconv"
	"strings"
	"testing"

	"probate/api"
	"probate/gram"
	"probate/tree"
)

// nodesOf are nodes parted by ";": a production, and behind ":" its places.
func nodesOf(text string) []tree.Node {
	var l []tree.Node
	for _, one := range strings.Split(text, ";") {
		prod, at, _ := strings.Cut(one, ":")
		l = append(l, tree.Node{Prod: number(prod), At: numbers(at)})
	}
	return l
}

func sameNode(a, b tree.Node) bool { return a.Prod == b.Prod && slices.Equal(a.At, b.At) }

// has holds a derivation's nodes: several times the same (R4), whatever becomes of what was told (R3); the arguments stay as they were.
func has(t *testing.T, g api.Grammar, l []int, want []tree.Node) {
	t.Helper()
	oldG, oldL := gram.Clone(g), slices.Clone(l)
	for range 3 {
		nodes, e := tree.Nodes(g, l)
		if e != api.OK || !slices.EqualFunc(nodes, want, sameNode) {
			t.Fatalf("Nodes(%v, %v): %v, %v, not %v", g, shorter(l), nodes[:min(len(nodes), 40)], e, want[:min(len(want), 40)])
		}
		if !gram.Same(g, oldG) || !slices.Equal(l, oldL) {
			t.Fatalf("of %v, %v became %v, %v", oldG, shorter(oldL), g, shorter(l))
		}
		spoilNodes(nodes)
	}
}

// shape holds a derivation's nodes, by their text, which tells the productions, too.
func shape(t *testing.T, g api.Grammar, text string) {
	t.Helper()
	want := nodesOf(text)
	var l []int
	for _, n := range want {
		l = append(l, n.Prod)
	}
	has(t, g, l, want)
}

// P15.1: a node of terminals alone, and one of no symbols.
func TestNodesOne(t *testing.T) {
	shape(t, grammar(1, "0: a"), "0: 0 1")
	shape(t, grammar(1, "0: a b c d e f g h"), "0: 0 1 2 3 4 5 6 7 8")
	shape(t, grammar(1, "0:"), "0: 0")
	shape(t, grammar(1, "0: a; 0: b b; 0:"), "1: 0 1 2")
	shape(t, grammar(1, "0: a; 0: b b; 0:"), "2: 0")
	shape(t, grammar(2, "0: a 1 b; 1:"), "0: 0 1 1 2; 1: 1")
	shape(t, api.Grammar{Nons: 1, Prods: []api.Prod{{Right: []api.Sym{}}}}, "0: 0")
}

// P15.1: terminals alone below others, at the word's beginning, in its middle and at its end.
func TestNodesTerminals(t *testing.T) {
	shape(t, grammar(2, "0: 1 a; 1: b c"), "0: 0 2 3; 1: 0 1 2")
	shape(t, grammar(2, "0: a 1 d; 1: b c"), "0: 0 1 3 4; 1: 1 2 3")
	shape(t, grammar(2, "0: a 1; 1: b c"), "0: 0 1 3; 1: 1 2 3")
	shape(t, grammar(2, "0: 1; 1: b c"), "0: 0 2; 1: 0 1 2")
	shape(t, grammar(3, "0: 1 2 1; 1: a b; 2: c"), "0: 0 2 3 5; 1: 0 1 2; 2: 2 3; 1: 3 4 5")
	shape(t, from(2, grammar(3, "0: a; 1: 0 b; 2: c 1 0")), "2: 0 1 3 4; 1: 1 2 3; 0: 1 2; 0: 3 4")
}

// P15.1: a node of no symbols has one place: where it stands, at the word's beginning, in its middle and at its end.
func TestNodesNothing(t *testing.T) {
	shape(t, grammar(2, "0: 1 a b; 1:"), "0: 0 0 1 2; 1: 0")
	shape(t, grammar(2, "0: a 1 b; 1:"), "0: 0 1 1 2; 1: 1")
	shape(t, grammar(2, "0: a b 1; 1:"), "0: 0 1 2 2; 1: 2")
	shape(t, grammar(2, "0: 1; 1:"), "0: 0 0; 1: 0")
	shape(t, grammar(2, "0: 1 a 1 b 1; 1:"), "0: 0 0 1 1 2 2; 1: 0; 1: 1; 1: 2")
	for place := range api.MostRight {
		text, at, gone := "0:", "0:", 0
		for i := range api.MostRight {
			at += " " + strconv.Itoa(gone)
			if i == place {
				text += " 1"
			} else {
				text, gone = text+" a", gone+1
			}
		}
		at += " " + strconv.Itoa(gone)
		shape(t, grammar(2, text+"; 1:"), at+"; 1: "+strconv.Itoa(place))
	}
}

// P15.1: nonterminals of which nothing comes, side by side, ahead of terminals and behind them, and in each other.
func TestNodesNothingSideBySide(t *testing.T) {
	shape(t, grammar(3, "0: 1 2; 1:; 2:"), "0: 0 0 0; 1: 0; 2: 0")
	shape(t, grammar(3, "0: 1 2 a; 1:; 2:"), "0: 0 0 0 1; 1: 0; 2: 0")
	shape(t, grammar(3, "0: a 1 2; 1:; 2:"), "0: 0 1 1 1; 1: 1; 2: 1")
	shape(t, grammar(3, "0: a 1 2 1 b; 1:; 2:"), "0: 0 1 1 1 1 2; 1: 1; 2: 1; 1: 1")
	shape(t, grammar(3, "0: 2 1 a 1 2 b 2 1; 1:; 2:"), "0: 0 0 0 1 1 1 2 2 2; 2: 0; 1: 0; 1: 1; 2: 1; 2: 2; 1: 2")
	shape(t, grammar(3, "0: a 1 b; 1: 2 2; 2:"), "0: 0 1 1 2; 1: 1 1 1; 2: 1; 2: 1")
	shape(t, grammar(4, "0: 1 a 1; 1: 2 3 2; 2: 3; 3:"), "0: 0 0 1 1; 1: 0 0 0 0; 2: 0 0; 3: 0; 3: 0; 2: 0 0; 3: 0; 1: 1 1 1 1; 2: 1 1; 3: 1; 3: 1; 2: 1 1; 3: 1")
	shape(t, grammar(1, "0: 0 0 0 0 0 0 0 0; 0:"), "0: 0 0 0 0 0 0 0 0 0"+strings.Repeat("; 1: 0", 8))
}

// P15.1: nodes in nodes.
func TestNodesInNodes(t *testing.T) {
	g := grammar(2, "0: a 0 b 1; 0: 1 1; 1: c 0; 1: d; 1:")
	shape(t, g, "1: 0 0 0; 4: 0; 4: 0")
	shape(t, g, "1: 0 1 1; 3: 0 1; 4: 1")
	shape(t, g, "1: 0 0 1; 4: 0; 3: 0 1")
	shape(t, g, "0: 0 1 3 4 4; 1: 1 2 3; 3: 1 2; 3: 2 3; 4: 4")
	shape(t, g, "0: 0 1 6 7 8; 0: 1 2 4 5 6; 1: 2 3 4; 3: 2 3; 3: 3 4; 3: 5 6; 3: 7 8")
	shape(t, g, "1: 0 6 7; 2: 0 1 6; 0: 1 2 4 5 6; 1: 2 3 4; 3: 2 3; 3: 3 4; 3: 5 6; 3: 6 7")
	shape(t, g, "0: 0 1 3 4 5; 1: 1 2 3; 2: 1 2 2; 1: 2 2 2; 4: 2; 4: 2; 3: 2 3; 3: 4 5")
}

// P15.1: nodes in nodes, as deep as there may be steps; the last place of the first node is how many tokens the word has.
func TestNodesDeep(t *testing.T) {
	const many = api.MostSteps - 1
	for _, c := range []struct {
		text string
		of   func(i int) []int // the places of the node that is i deep
		end  []int
	}{
		{"0: a 0; 0: b", func(i int) []int { return []int{i, i + 1, many + 1} }, []int{many, many + 1}},
		{"0: 0 a; 0: b", func(i int) []int { return []int{0, many - i, many + 1 - i} }, []int{0, 1}},
		{"0: a 0 b; 0:", func(i int) []int { return []int{i, i + 1, 2*many - i - 1, 2*many - i} }, []int{many}},
		{"0: 0; 0: a b", func(int) []int { return []int{0, 2} }, []int{0, 1, 2}},
		{"0: 0; 0:", func(int) []int { return []int{0, 0} }, []int{0}},
	} {
		g, l, want := grammar(1, c.text), append(times(many, 0), 1), []tree.Node{}
		for i := range many {
			want = append(want, tree.Node{Prod: 0, At: c.of(i)})
		}
		want = append(want, tree.Node{Prod: 1, At: c.end})
		has(t, g, l, want)
		w, e := tree.Replay(g, l)
		if ends := want[0].At[len(want[0].At)-1]; e != api.OK || len(w) != ends {
			t.Errorf("of %s come %d tokens, %v, not %d", c.text, len(w), e, ends)
		}
	}
}

// P15.1: nodes side by side, as many as there may be steps, of one token each, and of none.
func TestNodesWide(t *testing.T) {
	const many = api.MostSteps/2 - 1
	g := from(2, grammar(3, "0: 1 0; 0:; 1:; 1: a; 2: 0"))
	for tokens := range 2 { // production 2 and tokens is the one of so many
		l, want := []int{4}, []tree.Node{{Prod: 4, At: []int{0, many * tokens}}}
		for i := range many {
			at := i * tokens
			l = append(l, 0, 2+tokens)
			want = append(want, tree.Node{Prod: 0, At: []int{at, at + tokens, many * tokens}})
			want = append(want, tree.Node{Prod: 2 + tokens, At: []int{at, at + 1}[:1+tokens]})
		}
		l, want = append(l, 1), append(want, tree.Node{Prod: 1, At: []int{many * tokens}})
		if len(l) != api.MostSteps {
			t.Fatalf("%d productions", len(l))
		}
		has(t, g, l, want)
	}
}

// R3: no two lists of one answer share memory: what stands behind one's end is none of another one's.
func TestNodesShareNothing(t *testing.T) {
	g := grammar(2, "0: 1 a 0 b; 0:; 1: c; 1:")
	l := numbers("0 2 0 3 0 2 1")
	want, e := tree.Nodes(g, l)
	if e != api.OK {
		t.Fatal(e)
	}
	for i := range want {
		nodes, _ := tree.Nodes(g, l)
		spoil(nodes[i].At)
		nodes[i].Prod = -1
		for k, n := range nodes {
			if k != i && !sameNode(n, want[k]) {
				t.Errorf("node %d changed with node %d: %v, not %v", k, i, n, want[k])
			}
		}
		nodes = append(nodes[:i:i], tree.Node{})
		if again, _ := tree.Nodes(g, l); !slices.EqualFunc(again, want, sameNode) {
			t.Errorf("again: %v, not %v, beside %v", again, want, nodes)
		}
	}
}

// R3, R5: a change of the arguments changes nothing of what was told, and what is told next is told of what they are now.
func TestNothingIsKept(t *testing.T) {
	g, l := grammar(2, "0: a 1 0; 0: b; 1: c; 1:"), numbers("0 2 1")
	w, _ := tree.Replay(g, l)
	nodes, _ := tree.Nodes(g, l)
	l[1] = 3
	tells(t, g, l, "ab")
	shape(t, g, "0: 0 1 1 2; 3: 1; 1: 1 2")
	g.Prods[0].Right[0].N = 3
	g.Prods[1].Right = append(g.Prods[1].Right, api.Sym{N: 4})
	tells(t, g, l, "dbe")
	shape(t, g, "0: 0 1 1 3; 3: 1; 1: 1 2 3")
	g.Prods = g.Prods[:3]
	fails(t, g, l, api.ErrForm)
	l[1] = 2
	l[2] = 0
	fails(t, g, l, api.ErrShort)
	if !slices.Equal(w, letters("acb")) {
		t.Errorf("the word became %v", w)
	}
	if !slices.EqualFunc(nodes, nodesOf("0: 0 1 2 3; 2: 1 2; 1: 2 3"), sameNode) {
		t.Errorf("the nodes became %v", nodes)
	}
}
