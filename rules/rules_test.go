package rules_test

import (
	"slices"
	"strconv"
	"strings"
	"testing"

	"probate/api"
	"probate/rules"
)

// These are nodes.
func seq(kids ...int) rules.Node  { return rules.Node{Kind: 1, Kids: kids} }
func alt(kids ...int) rules.Node  { return rules.Node{Kind: 2, Kids: kids} }
func star(kid int) rules.Node     { return rules.Node{Kind: 3, Kids: []int{kid}} }
func plus(kid int) rules.Node     { return rules.Node{Kind: 4, Kids: []int{kid}} }
func opt(kid int) rules.Node      { return rules.Node{Kind: 5, Kids: []int{kid}} }
func call(name string) rules.Node { return rules.Node{Kind: 6, Name: name} }
func term(name string) rules.Node { return rules.Node{Kind: 7, Name: name} }

func nodes(l ...rules.Node) []rules.Node { return l }

func rule(name string, body int) rules.Rule { return rules.Rule{Name: name, Body: body} }

// tree is one of nodes and rules.
func tree(l []rules.Node, of ...rules.Rule) rules.Tree { return rules.Tree{Rules: of, Nodes: l} }

// one is a tree of one rule alone, whose body is the last node.
func one(name string, l ...rules.Node) rules.Tree { return tree(l, rule(name, len(l)-1)) }

// example is the chapter's text and its tree, by a new copy each time.
const exampleText = "s: 'a' s | ;"

func example() rules.Tree {
	return one("s", term("a"), call("s"), seq(0, 1), seq(), alt(2, 3))
}

// flat is a tree as a text in which no part is lost: two trees are the same just if these are.
func flat(t rules.Tree) string {
	var b strings.Builder
	for _, r := range t.Rules {
		b.WriteString(strconv.Quote(r.Name) + "=" + strconv.Itoa(r.Body) + " ")
	}
	for i, n := range t.Nodes {
		b.WriteString("| " + strconv.Itoa(i) + ": " + strconv.Itoa(n.Kind) + " " + strconv.Quote(n.Name))
		for _, k := range n.Kids {
			b.WriteString(" " + strconv.Itoa(k))
		}
	}
	return b.String()
}

// isZero tells whether a tree is the zero value.
func isZero(t rules.Tree) bool { return t.Rules == nil && t.Nodes == nil }

// tells holds Read of a text against its tree, and holds that it may be (P6.3).
func tells(t *testing.T, text string, want rules.Tree) {
	t.Helper()
	got, at, e := rules.Read(text)
	if flat(got) != flat(want) || at != 0 || e != api.OK {
		t.Errorf("Read(%q): %s, %d, %d, not %s", text, flat(got), at, e, flat(want))
	}
	if !rules.Right(got) || !rules.Same(got, want) {
		t.Errorf("Read(%q): %s may not be, or isn't the same", text, flat(got))
	}
}

// fails holds Read of a text against an error and its place, beside which there is no tree (R2).
func fails(t *testing.T, text string, place int, want api.Errno) {
	t.Helper()
	if got, at, e := rules.Read(text); !isZero(got) || at != place || e != want {
		t.Errorf("Read(%q): %s, %d, %d, not %d at %d", text, flat(got), at, e, want, place)
	}
}

// alike holds that texts have one tree.
func alike(t *testing.T, texts ...string) {
	t.Helper()
	want, _, e := rules.Read(texts[0])
	if e != api.OK {
		t.Errorf("Read(%q): %d", texts[0], e)
	}
	for _, text := range texts {
		tells(t, text, want)
	}
}

// P6.1: the kinds' numbers.
func TestKinds(t *testing.T) {
	got := []int{rules.Seq, rules.Alt, rules.Star, rules.Plus, rules.Opt, rules.Call, rules.Term}
	if !slices.Equal(got, []int{1, 2, 3, 4, 5, 6, 7}) {
		t.Errorf("%v", got)
	}
}

// P6.1: the chapter's example, node by node.
func TestExample(t *testing.T) {
	tells(t, exampleText, example())
	got, _, _ := rules.Read(exampleText)
	for i, want := range example().Nodes {
		if n := got.Nodes[i]; n.Kind != want.Kind || n.Name != want.Name || !slices.Equal(n.Kids, want.Kids) {
			t.Errorf("node %d: %v, not %v", i, n, want)
		}
	}
	if len(got.Rules) != 1 || got.Rules[0] != (rules.Rule{Name: "s", Body: 4}) || len(got.Nodes) != 5 {
		t.Errorf("%v", got)
	}
}

// P6.1: each kind of node, as the body of a rule.
func TestEachKind(t *testing.T) {
	tells(t, "s:;", one("s", seq()))
	tells(t, "s: s 'a';", one("s", call("s"), term("a"), seq(0, 1)))
	tells(t, "s: s | 'a';", one("s", call("s"), term("a"), alt(0, 1)))
	tells(t, "s: 'a'*;", one("s", term("a"), star(0)))
	tells(t, "s: 'a'+;", one("s", term("a"), plus(0)))
	tells(t, "s: 'a'?;", one("s", term("a"), opt(0)))
	tells(t, "s: s;", one("s", call("s")))
	tells(t, "s: 'a';", one("s", term("a")))
}

// P6.1: items with *, + and ?, of each atom.
func TestItems(t *testing.T) {
	for mark, node := range map[string]func(int) rules.Node{"*": star, "+": plus, "?": opt} {
		tells(t, "s: s"+mark+";", one("s", call("s"), node(0)))
		tells(t, "s: 'x' "+mark+" ;", one("s", term("x"), node(0)))
		tells(t, "s: ()"+mark+";", one("s", seq(), node(0)))
		tells(t, "s: ('x')"+mark+";", one("s", term("x"), node(0)))
		tells(t, "s: (s 'x')"+mark+";", one("s", call("s"), term("x"), seq(0, 1), node(2)))
		tells(t, "s: (s | 'x')"+mark+";", one("s", call("s"), term("x"), alt(0, 1), node(2)))
		tells(t, "s: (s|)"+mark+";", one("s", call("s"), seq(), alt(0, 1), node(2)))
		tells(t, "s: s 'x'"+mark+";", one("s", call("s"), term("x"), node(1), seq(0, 2)))
		tells(t, "s: s"+mark+" 'x';", one("s", call("s"), node(0), term("x"), seq(1, 2)))
		tells(t, "s: s | 'x'"+mark+";", one("s", call("s"), term("x"), node(1), alt(0, 2)))
		tells(t, "s: s"+mark+" | 'x';", one("s", call("s"), node(0), term("x"), alt(1, 2)))
		for behind, outer := range map[string]func(int) rules.Node{"*": star, "+": plus, "?": opt} {
			fails(t, "s: s"+mark+behind+";", 5, api.ErrForm)
			fails(t, "s: 'x'"+mark+" "+behind+" ;", 8, api.ErrForm)
			fails(t, "s: (s"+mark+behind+");", 6, api.ErrForm)
			fails(t, "s: (s)"+mark+behind+";", 7, api.ErrForm)
			tells(t, "s: (s"+mark+")"+behind+";", one("s", call("s"), node(0), outer(1)))
			tells(t, "s: ('x'"+mark+" | s)"+behind+";", one("s", term("x"), node(0), call("s"), alt(1, 2), outer(3)))
		}
	}
}

// P6.1: a Quote whose Text is a mark's, or a Name's, is none of these.
func TestQuotesAreNoMarks(t *testing.T) {
	for _, m := range []string{":", ";", "|", "(", ")", "*", "+", "?", "s", " ", "#", "s: ;"} {
		tells(t, "s: '"+m+"';", one("s", term(m)))
		tells(t, "s: s '"+m+"';", one("s", call("s"), term(m), seq(0, 1)))
		tells(t, "s: ('"+m+"')*;", one("s", term(m), star(0)))
		tells(t, "s: '"+m+"' | '"+m+"'?;", one("s", term(m), term(m), opt(1), alt(0, 2)))
		fails(t, "s '"+m+"' ;", 2, api.ErrForm)
		fails(t, "s: s; '"+m+"'", 6, api.ErrForm)
		fails(t, "s: (s '"+m+"'", 8+len(m), api.ErrForm)
	}
	tells(t, "s: ';' ':' ;", one("s", term(";"), term(":"), seq(0, 1)))
	tells(t, "s: '(' s ')' | '|';", one("s", term("("), call("s"), term(")"), seq(0, 1, 2), term("|"), alt(3, 4)))
	fails(t, "'s': 'a';", 0, api.ErrForm)
	fails(t, "s: ('a' ')';", 11, api.ErrForm)
	fails(t, "s: '(' );", 7, api.ErrForm)
}

// P6.1: rules of no items, of one and of many, and of one alternative and many, empty ones among them.
func TestAlternatives(t *testing.T) {
	tells(t, "s : ;", one("s", seq()))
	tells(t, "s: 'a' 'b' 'c' 'a';", one("s", term("a"), term("b"), term("c"), term("a"), seq(0, 1, 2, 3)))
	tells(t, "s: |;", one("s", seq(), seq(), alt(0, 1)))
	tells(t, "s: ||;", one("s", seq(), seq(), seq(), alt(0, 1, 2)))
	tells(t, "s: |||||;", one("s", seq(), seq(), seq(), seq(), seq(), seq(), alt(0, 1, 2, 3, 4, 5)))
	tells(t, "s: | 'a';", one("s", seq(), term("a"), alt(0, 1)))
	tells(t, "s: 'a' |;", one("s", term("a"), seq(), alt(0, 1)))
	tells(t, "s: 'a' || 'b';", one("s", term("a"), seq(), term("b"), alt(0, 1, 2)))
	tells(t, "s: | 'a' |;", one("s", seq(), term("a"), seq(), alt(0, 1, 2)))
	tells(t, "s: 'a' | 'b' | s;", one("s", term("a"), term("b"), call("s"), alt(0, 1, 2)))
	tells(t, "s: 'a' 'b' | s s;", one("s", term("a"), term("b"), seq(0, 1), call("s"), call("s"), seq(3, 4), alt(2, 5)))
	tells(t, "s: 'a' | s s | | s*;", one("s", term("a"), call("s"), call("s"), seq(1, 2), seq(), call("s"), star(5), alt(0, 3, 4, 6)))
	many := strings.Repeat("'a' ", 100)
	var l []rules.Node
	var kids []int
	for i := range 100 {
		l, kids = append(l, term("a")), append(kids, i)
	}
	tells(t, "s: "+many+";", one("s", append(l, seq(kids...))...))
}

// P6.1: brackets around nothing, one item, many, alternatives, and each other: what changes something stays, and no more.
func TestBrackets(t *testing.T) {
	tells(t, "s: ();", one("s", seq()))
	tells(t, "s: (());", one("s", seq()))
	tells(t, "s: ()();", one("s", seq(), seq(), seq(0, 1)))
	tells(t, "s: ()|();", one("s", seq(), seq(), alt(0, 1)))
	tells(t, "s: () 'a';", one("s", seq(), term("a"), seq(0, 1)))
	tells(t, "s: ('a');", one("s", term("a")))
	tells(t, "s: (s);", one("s", call("s")))
	tells(t, "s: ('a'*);", one("s", term("a"), star(0)))
	tells(t, "s: ('a' s);", one("s", term("a"), call("s"), seq(0, 1)))
	tells(t, "s: ('a' s) 'b';", one("s", term("a"), call("s"), seq(0, 1), term("b"), seq(2, 3)))
	tells(t, "s: 'b' ('a' s);", one("s", term("b"), term("a"), call("s"), seq(1, 2), seq(0, 3)))
	tells(t, "s: ('a' s) | 'b';", one("s", term("a"), call("s"), seq(0, 1), term("b"), alt(2, 3)))
	tells(t, "s: ('a' | s);", one("s", term("a"), call("s"), alt(0, 1)))
	tells(t, "s: ('a' | s) | 'b';", one("s", term("a"), call("s"), alt(0, 1), term("b"), alt(2, 3)))
	tells(t, "s: 'b' | ('a' | s);", one("s", term("b"), term("a"), call("s"), alt(1, 2), alt(0, 3)))
	tells(t, "s: 'b' ('a' | s);", one("s", term("b"), term("a"), call("s"), alt(1, 2), seq(0, 3)))
	tells(t, "s: (|);", one("s", seq(), seq(), alt(0, 1)))
	tells(t, "s: (|)|;", one("s", seq(), seq(), alt(0, 1), seq(), alt(2, 3)))
	tells(t, "s: ('a' ('b' (s)*)+)?;", one("s", term("a"), term("b"), call("s"), star(2), seq(1, 3), plus(4), seq(0, 5), opt(6)))
	tells(t, "s: (('a' | 'b') s | ()) ();", one("s", term("a"), term("b"), alt(0, 1), call("s"), seq(2, 3), seq(), alt(4, 5), seq(), seq(6, 7)))
}

// P6.1: brackets in brackets, as many levels deep as a text has room for.
func TestDeep(t *testing.T) {
	for _, k := range []int{1, 2, 3, 50, 1000, (api.MostText - 6) / 2} {
		open, shut := strings.Repeat("(", k), strings.Repeat(")", k)
		tells(t, "s:"+open+shut+";", one("s", seq()))
		tells(t, "s:"+open+"'a'"+shut+";", one("s", term("a")))
		tells(t, "s:"+open+"s|"+shut+";", one("s", call("s"), seq(), alt(0, 1)))
		fails(t, "s:"+open+shut, 2+2*k, api.ErrForm)
		fails(t, "s:"+open+shut[1:]+";", 1+2*k, api.ErrForm)
		fails(t, "s:"+open+shut+")", 2+2*k, api.ErrForm)
	}
	fails(t, "s:"+strings.Repeat("(", api.MostText-2), api.MostText, api.ErrForm)
	fails(t, strings.Repeat("(", api.MostText), 0, api.ErrForm)
	for _, k := range []int{1, 2, 10, 60, api.MostNodes - 1} {
		l := nodes(call("s"))
		for i := range k {
			l = append(l, star(i))
		}
		tells(t, "s:"+strings.Repeat("(", k)+"s"+strings.Repeat(")*", k)+";", one("s", l...))
	}
	l := nodes(term("a"))
	for i := range 30 {
		l = append(l, call("s"), seq(2*i, 2*i+1))
	}
	tells(t, "s:"+strings.Repeat("(", 30)+"'a'"+strings.Repeat(" s)", 30)+";", one("s", l...))
	l = nil
	for range 30 {
		l = append(l, call("s"))
	}
	l = append(l, term("a"))
	for i := range 30 {
		l = append(l, alt(29-i, 30+i))
	}
	tells(t, "s:"+strings.Repeat("(s|", 30)+"'a'"+strings.Repeat(")", 30)+";", one("s", l...))
}

// P6.1: several rules, whose nodes' numbers go on from rule to rule.
func TestSeveralRules(t *testing.T) {
	tells(t, "s: t; t: 'a';", tree(nodes(call("t"), term("a")), rule("s", 0), rule("t", 1)))
	tells(t, "t: 'a'; s: t;", tree(nodes(term("a"), call("t")), rule("t", 0), rule("s", 1)))
	tells(t, "a:;b:;c:;", tree(nodes(seq(), seq(), seq()), rule("a", 0), rule("b", 1), rule("c", 2)))
	tells(t, "sum: item ('+' item)* ;\nitem: 'n' | '(' sum ')' ; # brackets\n", tree(nodes(
		call("item"), term("+"), call("item"), seq(1, 2), star(3), seq(0, 4),
		term("n"), term("("), call("sum"), term(")"), seq(7, 8, 9), alt(6, 10),
	), rule("sum", 5), rule("item", 11)))
	tells(t, "s: (t | u)+ ; t: 'a' ; u: ;", tree(nodes(call("t"), call("u"), alt(0, 1), plus(2), term("a"), seq()), rule("s", 3), rule("t", 4), rule("u", 5)))
	tells(t, "S: s; s: S1; S1: S_; S_: 's';", tree(nodes(call("s"), call("S1"), call("S_"), term("s")), rule("S", 0), rule("s", 1), rule("S1", 2), rule("S_", 3)))
}
