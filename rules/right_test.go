package rules_test

import (
	"math"
	"slices"
	"strconv"
	"strings"
	"testing"

	"probate/api"
	"probate/rules"
)

// copied is a copy, made without the package.
func copied(t rules.Tree) rules.Tree {
	c := rules.Tree{Rules: slices.Clone(t.Rules), Nodes: slices.Clone(t.Nodes)}
	for i := range c.Nodes {
		c.Nodes[i].Kids = slices.Clone(c.Nodes[i].Kids)
	}
	return c
}

// right holds that a tree may be, or may not, and that it stays as it was (R3).
func right(t *testing.T, what rules.Tree, want bool) {
	t.Helper()
	before := flat(what)
	if rules.Right(what) != want || flat(what) != before {
		t.Errorf("Right of %s isn't %t, or it is changed: %s", before, want, flat(what))
	}
}

func may(t *testing.T, what rules.Tree)    { t.Helper(); right(t, what, true) }
func mayNot(t *testing.T, what rules.Tree) { t.Helper(); right(t, what, false) }

// P6.2: trees of which some text stands, by hand, with a node of each kind and each number of Kids that may be.
func TestRight(t *testing.T) {
	may(t, example())
	may(t, one("s", seq()))
	may(t, one("s", seq(), seq(), seq(0, 1)))
	may(t, one("s", seq(), seq(), seq(), seq(0, 1, 2)))
	may(t, one("s", seq(), seq(), alt(0, 1)))
	may(t, one("s", seq(), seq(), seq(), alt(0, 1, 2)))
	may(t, one("s", term("a"), call("s"), alt(0, 1), term("b"), alt(2, 3)))
	may(t, one("s", term("a"), star(0)))
	may(t, one("s", term("a"), star(0), star(1), plus(2), opt(3), opt(4)))
	may(t, one("s", term("a"), plus(0)))
	may(t, one("s", term("a"), opt(0)))
	may(t, one("s", call("s")))
	may(t, one("s", term("a")))
	may(t, tree(nodes(call("t"), term("a")), rule("s", 0), rule("t", 1)))
	may(t, tree(nodes(call("t"), star(0), term("a"), seq(), seq(2, 3)), rule("s", 1), rule("t", 4)))
}

// P6.2: no rules, whatever the nodes, and rules that have no nodes.
func TestRightNoRules(t *testing.T) {
	mayNot(t, rules.Tree{})
	mayNot(t, rules.Tree{Rules: []rules.Rule{}, Nodes: nodes()})
	mayNot(t, tree(nodes(term("a"))))
	mayNot(t, tree(nil, rule("s", 0)))
	mayNot(t, tree(nil, rule("s", -1)))
	mayNot(t, tree(nil, rule("", 0)))
}

// P6.2: no two rules have one Name.
func TestRightTwice(t *testing.T) {
	l := nodes(term("a"), term("b"), term("c"))
	may(t, tree(l, rule("s", 0), rule("t", 1), rule("u", 2)))
	mayNot(t, tree(l, rule("s", 0), rule("t", 1), rule("s", 2)))
	mayNot(t, tree(l, rule("s", 0), rule("s", 1), rule("t", 2)))
	mayNot(t, tree(l, rule("s", 0), rule("t", 1), rule("t", 2)))
	may(t, tree(l, rule("s", 0), rule("S", 1), rule("s1", 2)))
}

// P6.2: a rule's Name is one that scan tells, and a Call's is a rule's.
func TestRightNames(t *testing.T) {
	for _, name := range []string{"a", "Z", "s1", "S_", "a__9", "list", strings.Repeat("n", 300), strings.Repeat("n", api.MostText)} {
		may(t, one(name, term("a")))
		may(t, one(name, call(name)))
		may(t, one(name, term("a"), call(name), seq(0, 1)))
		mayNot(t, one("other", call(name)))
		mayNot(t, one(name, call("other")))
		may(t, tree(nodes(call(name), seq()), rule("other", 0), rule(name, 1)))
		may(t, tree(nodes(seq(), call(name)), rule(name, 0), rule("other", 1)))
	}
	for _, name := range []string{
		"", " ", "a ", " a", "\ta", "a\n", "a b", "a\nb", "1", "1a", "_", "_a", "'a'", "'", "a'", ":", ";", "a:", "(a)", "a*", "a;b", "a#", "#a", "a#b", "a\x00", "\x00", "a-b",
		"\xc3\xa9", "a\x80", "a'b'", "a: ; b", strings.Repeat("n", api.MostText+1), strings.Repeat("n", 1<<20), strings.Repeat("n", api.MostText-1) + " ",
	} {
		mayNot(t, one(name, term("a")))
		mayNot(t, one(name, call(name)))
		mayNot(t, one("s", call(name)))
		mayNot(t, tree(nodes(seq(), seq()), rule("s", 0), rule(name, 1)))
		mayNot(t, tree(nodes(seq(), seq()), rule(name, 0), rule("s", 1)))
	}
}

// P6.2: a Term's Name is a Quote's Text.
func TestRightTerms(t *testing.T) {
	for c := range 256 {
		is := 32 <= c && c <= 126 && c != '\''
		for _, name := range []string{string([]byte{byte(c)}), "a" + string([]byte{byte(c)}), string([]byte{byte(c)}) + "a", "a" + string([]byte{byte(c)}) + "b"} {
			right(t, one("s", term(name)), is)
			right(t, one("s", term("a"), term(name), alt(0, 1)), is)
		}
	}
	for _, name := range []string{"if", ":", ":=", "#", "# a", "a b", " ", "s: ;", "(", "\"", "\\n", strings.Repeat("a", api.MostText-2), strings.Repeat(" ", api.MostText-2)} {
		may(t, one("s", term(name)))
	}
	for _, name := range []string{
		"", "'", "''", "'a'", "a' 'b", "a''b", "a'b", "a'#", "a' ", "a'\n", "\n", "a\n", "\x1f", "\x7f", "\x80", "\xff", "\xc3\xa9",
		strings.Repeat("a", api.MostText-1), strings.Repeat("a", api.MostText), strings.Repeat("a", 1<<20), strings.Repeat("'", api.MostText-2),
	} {
		mayNot(t, one("s", term(name)))
		mayNot(t, one("s", term("a"), term(name), seq(0, 1)))
	}
	// names that are right, but more than one text has room for
	long := strings.Repeat("a", api.MostText-2)
	may(t, tree(nodes(term(long), call(long+"bb"), seq(0, 1), term(long)), rule(long+"bb", 2), rule(long, 3)))
}

// P6.2: just as many rules and nodes as may be, and one more of each.
func TestRightMost(t *testing.T) {
	for _, many := range []int{1, 2, api.MostNons - 1, api.MostNons, api.MostNons + 1, 2 * api.MostNons, 1000} {
		var x rules.Tree
		for i := range many {
			x.Nodes = append(x.Nodes, call("r0"))
			x.Rules = append(x.Rules, rule("r"+strconv.Itoa(i), i))
		}
		right(t, x, many <= api.MostNons)
	}
	for _, many := range []int{3, 4, api.MostNodes - 1, api.MostNodes, api.MostNodes + 1, 2 * api.MostNodes, 100000} {
		var kids []int
		var l []rules.Node
		for i := range many - 1 {
			l, kids = append(l, term("a")), append(kids, i)
		}
		right(t, one("s", append(l, seq(kids...))...), many <= api.MostNodes)
		l = nodes(call("s"))
		for i := range many - 1 {
			l = append(l, opt(i))
		}
		right(t, one("s", l...), many <= api.MostNodes)
	}
}

// P6.2: each kind of node with numbers of Kids, and no other kind.
func TestRightKids(t *testing.T) {
	kinds := map[int]func(many int) bool{
		rules.Seq:  func(many int) bool { return many != 1 },
		rules.Alt:  func(many int) bool { return many >= 2 },
		rules.Star: func(many int) bool { return many == 1 },
		rules.Plus: func(many int) bool { return many == 1 },
		rules.Opt:  func(many int) bool { return many == 1 },
		rules.Call: func(many int) bool { return many == 0 },
		rules.Term: func(many int) bool { return many == 0 },
	}
	for _, kind := range []int{math.MinInt, -7, -1, 0, 1, 2, 3, 4, 5, 6, 7, 8, 9, 100, math.MaxInt} {
		for many := range 6 {
			var l []rules.Node
			var kids []int
			for i := range many {
				l, kids = append(l, term("a")), append(kids, i)
			}
			for _, name := range []string{"", "s"} {
				is := kinds[kind]
				named := kind == rules.Call || kind == rules.Term
				right(t, one("s", append(l, rules.Node{Kind: kind, Name: name, Kids: kids})...), is != nil && is(many) && named == (name != ""))
			}
		}
	}
	// R6: no Kids, and an empty list of them, are one
	for _, n := range nodes(seq(), call("s"), term("a")) {
		n.Kids = []int{}
		may(t, one("s", n))
		n.Kids = make([]int, 0, 5)
		may(t, one("s", n))
	}
	for _, n := range nodes(alt(), rules.Node{Kind: 3}, rules.Node{Kind: 4}, rules.Node{Kind: 5}) {
		n.Kids = []int{}
		mayNot(t, one("s", n))
	}
}

// P6.2: of the kinds that have no Name, none may have one, be it one of a rule.
func TestRightNoName(t *testing.T) {
	x := one("s", term("a"), star(0), plus(1), opt(2), seq(), alt(3, 4), call("s"), seq(5, 6))
	may(t, x)
	for i, n := range x.Nodes {
		for _, name := range []string{"s", "a", " ", "'"} {
			if n.Kind != rules.Call && n.Kind != rules.Term {
				y := copied(x)
				y.Nodes[i].Name = name
				mayNot(t, y)
			}
		}
	}
	for i, n := range x.Nodes {
		if n.Kind == rules.Call || n.Kind == rules.Term {
			y := copied(x)
			y.Nodes[i].Name = ""
			mayNot(t, y)
		}
	}
}

// P6.2: a Body or a Kid that is no node, or not one ahead.
func TestRightNumbers(t *testing.T) {
	a, b := term("a"), term("b")
	for _, n := range []int{math.MinInt, -100, -2, -1, 2, 3, 4, 199, 200, 1 << 32, math.MaxInt} {
		mayNot(t, tree(nodes(a, star(0)), rule("s", n)))
		mayNot(t, tree(nodes(a, star(n)), rule("s", 1)))
		mayNot(t, tree(nodes(a, b, seq(0, n)), rule("s", 2)))
		mayNot(t, tree(nodes(a, b, seq(n, 1)), rule("s", 2)))
		mayNot(t, tree(nodes(a, b, seq(0, 1, n)), rule("s", 2)))
		mayNot(t, tree(nodes(a, b), rule("s", n), rule("t", 1)))
		mayNot(t, tree(nodes(a, b), rule("s", 0), rule("t", n)))
	}
	// a Kid that is the node itself
	mayNot(t, one("s", star(0)))
	mayNot(t, one("s", a, seq(0, 1)))
	mayNot(t, one("s", a, seq(1, 0)))
	// one behind the node
	mayNot(t, tree(nodes(star(1), a), rule("s", 0)))
	mayNot(t, tree(nodes(a, seq(0, 2), b), rule("s", 1)))
	mayNot(t, tree(nodes(seq(1, 2), a, b), rule("s", 0)))
	mayNot(t, tree(nodes(star(1), star(0)), rule("s", 0)))
	mayNot(t, tree(nodes(star(1), star(0)), rule("s", 1)))
	// a Body that is a Kid
	mayNot(t, tree(nodes(a, star(0)), rule("s", 0)))
	mayNot(t, tree(nodes(a, star(0)), rule("s", 0), rule("t", 1)))
	mayNot(t, tree(nodes(a, star(0), star(1)), rule("s", 1)))
	mayNot(t, tree(nodes(a, star(0), star(1)), rule("s", 1), rule("t", 2)))
}

// P6.2: nodes that nothing leads to, to which two lead, and which stand in another order.
func TestRightShape(t *testing.T) {
	a, b := term("a"), term("b")
	// nothing leads to one
	mayNot(t, one("s", a, b))
	mayNot(t, one("s", a, b, star(1)))
	mayNot(t, tree(nodes(a, b), rule("s", 0)))
	mayNot(t, one("s", a, b, term("c"), seq(0, 1)))
	mayNot(t, one("s", a, b, term("c"), seq(1, 2)))
	mayNot(t, one("s", a, b, term("c"), seq(0, 2)))
	mayNot(t, tree(nodes(a, b, term("c")), rule("s", 0), rule("t", 2)))
	mayNot(t, tree(nodes(a, b, term("c")), rule("s", 1), rule("t", 2)))
	// two lead to one
	mayNot(t, one("s", a, seq(0, 0)))
	mayNot(t, one("s", a, alt(0, 0)))
	mayNot(t, one("s", a, b, seq(0, 1, 1)))
	mayNot(t, one("s", a, b, seq(0, 0, 1)))
	mayNot(t, one("s", a, star(0), plus(0), seq(1, 2)))
	mayNot(t, one("s", a, star(0), seq(0, 1)))
	mayNot(t, tree(nodes(a), rule("s", 0), rule("t", 0)))
	mayNot(t, tree(nodes(a, star(0), star(0)), rule("s", 1), rule("t", 2)))
	mayNot(t, tree(nodes(a, star(0)), rule("s", 1), rule("t", 1)))
	// another order
	mayNot(t, one("s", a, b, seq(1, 0)))
	mayNot(t, one("s", a, b, term("c"), seq(0, 2, 1)))
	mayNot(t, one("s", a, b, star(0), seq(2, 1)))
	mayNot(t, one("s", a, b, star(0), plus(1), seq(2, 3)))
	may(t, one("s", a, star(0), b, plus(2), seq(1, 3)))
	mayNot(t, one("s", a, b, star(1), plus(0), seq(2, 3)))
	mayNot(t, one("s", a, b, star(1), plus(0), seq(3, 2)))
	mayNot(t, one("s", a, b, term("c"), seq(1, 2), seq(3, 0)))
	may(t, one("s", a, b, term("c"), seq(1, 2), seq(0, 3)))
	mayNot(t, one("s", seq(), a, call("s"), seq(1, 2), alt(3, 0)))
	// rules in another order than their bodies
	mayNot(t, tree(nodes(a, b), rule("s", 1), rule("t", 0)))
	mayNot(t, tree(nodes(a, b, star(0)), rule("s", 2), rule("t", 1)))
	mayNot(t, tree(nodes(a, b, star(0)), rule("t", 1), rule("s", 2)))
	may(t, tree(nodes(a, star(0), b), rule("s", 1), rule("t", 2)))
	// a node takes one of the rule ahead
	may(t, tree(nodes(a, b, seq()), rule("s", 0), rule("t", 1), rule("u", 2)))
	mayNot(t, tree(nodes(a, b, seq(0, 1)), rule("s", 0), rule("t", 2)))
}

// same holds whether trees are the same, either way round, and that they stay as they were.
func same(t *testing.T, a, b rules.Tree, want bool) {
	t.Helper()
	x, y := flat(a), flat(b)
	if rules.Same(a, b) != want || rules.Same(b, a) != want {
		t.Errorf("Same of %s and %s isn't %t", x, y, want)
	}
	if flat(a) != x || flat(b) != y {
		t.Errorf("%s and %s are changed", x, y)
	}
}

// P6.2: trees, that may be or not, are the same as copies, and not as trees that differ in one part alone.
func TestSame(t *testing.T) {
	x := tree(nodes(term("a"), call("s"), seq(0, 1), seq(), alt(2, 3), star(4), term("b")), rule("s", 5), rule("t", 6))
	may(t, x)
	all := []rules.Tree{x}
	other := func(change func(y *rules.Tree)) {
		y := copied(x)
		change(&y)
		all = append(all, y)
	}
	for i := range x.Rules {
		other(func(y *rules.Tree) { y.Rules[i].Name += "1" })
		other(func(y *rules.Tree) { y.Rules[i].Name = "" })
		other(func(y *rules.Tree) { y.Rules[i].Body++ })
		other(func(y *rules.Tree) { y.Rules[i].Body = -1 })
	}
	other(func(y *rules.Tree) { y.Rules = y.Rules[:1] })
	other(func(y *rules.Tree) { y.Rules = y.Rules[1:] })
	other(func(y *rules.Tree) { y.Rules = append(y.Rules, rules.Rule{}) })
	other(func(y *rules.Tree) { y.Rules = append(y.Rules, y.Rules[0]) })
	other(func(y *rules.Tree) { y.Rules[0], y.Rules[1] = y.Rules[1], y.Rules[0] })
	other(func(y *rules.Tree) { y.Rules = nil })
	for i := range x.Nodes {
		other(func(y *rules.Tree) { y.Nodes[i].Kind += 8 })
		other(func(y *rules.Tree) { y.Nodes[i].Kind = 0 })
		other(func(y *rules.Tree) { y.Nodes[i].Name += "x" })
		other(func(y *rules.Tree) { y.Nodes[i].Kids = append(y.Nodes[i].Kids, 0) })
		for k := range x.Nodes[i].Kids {
			other(func(y *rules.Tree) { y.Nodes[i].Kids[k] += 50 })
			other(func(y *rules.Tree) { y.Nodes[i].Kids[k] = -1 })
		}
		if len(x.Nodes[i].Kids) > 0 {
			other(func(y *rules.Tree) { y.Nodes[i].Kids = nil })
		}
		if len(x.Nodes[i].Kids) > 1 {
			other(func(y *rules.Tree) { slices.Reverse(y.Nodes[i].Kids) })
			other(func(y *rules.Tree) { y.Nodes[i].Kids = y.Nodes[i].Kids[1:] })
		}
	}
	other(func(y *rules.Tree) { y.Nodes = y.Nodes[:6] })
	other(func(y *rules.Tree) { y.Nodes = y.Nodes[1:] })
	other(func(y *rules.Tree) { y.Nodes = append(y.Nodes, rules.Node{}) })
	other(func(y *rules.Tree) { y.Nodes[0], y.Nodes[6] = y.Nodes[6], y.Nodes[0] })
	other(func(y *rules.Tree) { y.Nodes = nil })
	other(func(y *rules.Tree) { *y = rules.Tree{} })
	for i, a := range all {
		for j, b := range all {
			same(t, a, b, i == j)
			same(t, copied(a), b, i == j)
		}
	}
}

// P6.2, R6: of trees, no list and an empty one are one.
func TestSameEmpty(t *testing.T) {
	same(t, rules.Tree{}, rules.Tree{Rules: []rules.Rule{}, Nodes: []rules.Node{}}, true)
	x := one("s", term("a"), call("s"), seq(), alt(0, 1, 2))
	y := copied(x)
	for i := range y.Nodes {
		if len(y.Nodes[i].Kids) == 0 {
			y.Nodes[i].Kids = make([]int, 0, i)
		}
	}
	same(t, x, y, true)
	may(t, y)
	same(t, rules.Tree{Rules: x.Rules}, rules.Tree{Rules: x.Rules, Nodes: nodes()}, true)
	same(t, rules.Tree{Nodes: x.Nodes}, rules.Tree{Rules: []rules.Rule{}, Nodes: y.Nodes}, true)
	same(t, rules.Tree{Nodes: nodes(rules.Node{})}, rules.Tree{}, false)
}

// R3, R4, R5: an answer may be changed, wherever it has room, and the next call tells the same.
func TestNothingIsKept(t *testing.T) {
	text := strings.Clone("s: 'a' (s | t)* | t t ; t: | 's' ;")
	first, _, _ := rules.Read(text)
	want := copied(first)
	for range 3 {
		got, at, e := rules.Read(text)
		if flat(got) != flat(want) || at != 0 || e != api.OK {
			t.Fatalf("%s, %d, %d", flat(got), at, e)
		}
		fails(t, "s: s *+ ;", 6, api.ErrForm)
		fails(t, "s: t ;", 3, api.ErrName)
		for i, n := range got.Nodes { // no two lists share any
			_ = append(n.Kids, 77)
			if flat(got) != flat(want) {
				t.Fatalf("what is put behind the Kids of %d changes %s", i, flat(got))
			}
		}
		_ = append(got.Rules, rule("x", 9))
		_ = append(got.Nodes, term("x"))
		for i, n := range got.Nodes {
			for k := range n.Kids {
				n.Kids[k] = -5
			}
			got.Nodes[i] = star(77)
		}
		clear(got.Rules)
		if flat(first) != flat(want) {
			t.Fatalf("an earlier answer is changed: %s", flat(first))
		}
	}
}
