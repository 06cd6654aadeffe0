package show_test

import (
	"slices"
	"strconv"
	"strings"
	"testing"

	"probate/api"
	"probate/rules"
	"probate/show"
)

// read is the tree of a text that is right.
func read(t *testing.T, text string) rules.Tree {
	t.Helper()
	x, at, e := rules.Read(text)
	if e != api.OK {
		t.Fatalf("Read(%q): %d, %d", text, at, e)
	}
	return x
}

// is holds a tree's text against one, which is read as the same tree (P7.2), and its rules' tokens against the same text: no token of these texts holds a space.
func is(t *testing.T, x rules.Tree, want string) {
	t.Helper()
	got, e := show.Text(x)
	if got != want || e != api.OK {
		t.Errorf("Text: %q, %d, not %q", got, e, want)
	}
	if back, _, e := rules.Read(got); e != api.OK || !rules.Same(back, x) {
		t.Errorf("%q is read as another tree, %d", got, e)
	}
	for i, line := range strings.Split(strings.TrimSuffix(want, "\n"), "\n") {
		_, body, _ := strings.Cut(strings.TrimSuffix(line, " ;"), " :")
		tokens(t, x, i, strings.Fields(body)...)
	}
}

// tokens holds the tokens of a rule's body.
func tokens(t *testing.T, x rules.Tree, rule int, want ...string) {
	t.Helper()
	if got, e := show.Tokens(x, rule); !slices.Equal(got, want) || e != api.OK {
		t.Errorf("Tokens of rule %d: %q, %d, not %q", rule, got, e, want)
	}
}

// body holds what is shown of one rule, whose Name is s, read from a text.
func body(t *testing.T, text, want string) {
	t.Helper()
	line := "s : " + want + " ;\n"
	if want == "" {
		line = "s : ;\n"
	}
	is(t, read(t, "s:"+text+";"), line)
}

// P7.1: the chapter's example, byte for byte.
func TestExample(t *testing.T) {
	x := rules.Tree{Rules: []rules.Rule{{Name: "s", Body: 5}}, Nodes: []rules.Node{
		{Kind: rules.Term, Name: "a"}, {Kind: rules.Call, Name: "s"}, {Kind: rules.Seq, Kids: []int{0, 1}},
		{Kind: rules.Star, Kids: []int{2}}, {Kind: rules.Seq}, {Kind: rules.Alt, Kids: []int{3, 4}},
	}}
	is(t, x, "s : ( 'a' s ) * | ;\n")
	tokens(t, x, 0, "(", "'a'", "s", ")", "*", "|")
}

// P7.1: each kind of node, as a rule's body.
func TestBodies(t *testing.T) {
	body(t, "s", "s")
	body(t, "'a'", "'a'")
	body(t, "s*", "s *")
	body(t, "'a'+", "'a' +")
	body(t, "s?", "s ?")
	body(t, "", "")
	body(t, "()", "")
	body(t, "'a' s", "'a' s")
	body(t, "'a' s s 'b'", "'a' s s 'b'")
	body(t, "'a' | s", "'a' | s")
	body(t, "|", "|")
	body(t, "||", "| |")
	body(t, "('a'|s|'b')", "'a' | s | 'b'")
}

// P7.1: each kind of node, as the kid of a Star, Plus and Opt.
func TestKidsOfMarked(t *testing.T) {
	for _, mark := range []string{"*", "+", "?"} {
		body(t, "s"+mark, "s "+mark)
		body(t, "(s)"+mark, "s "+mark)
		body(t, "'a'"+mark, "'a' "+mark)
		body(t, "()"+mark, "( ) "+mark)
		body(t, "(s 'a')"+mark, "( s 'a' ) "+mark)
		body(t, "(s|'a')"+mark, "( s | 'a' ) "+mark)
		body(t, "(|)"+mark, "( | ) "+mark)
		for _, inner := range []string{"*", "+", "?"} {
			body(t, "(s"+inner+")"+mark, "( s "+inner+" ) "+mark)
			body(t, "((s|)"+inner+")"+mark, "( ( s | ) "+inner+" ) "+mark)
		}
	}
}

// P7.1: each kind of node, as a Seq's kid.
func TestKidsOfSeq(t *testing.T) {
	for _, c := range [][2]string{
		{"s", "s"}, {"'b'", "'b'"}, {"s*", "s *"}, {"'b'+", "'b' +"}, {"s?", "s ?"}, {"(s*)", "s *"}, {"(s*)?", "( s * ) ?"}, {"(s s)*", "( s s ) *"},
		{"()", "( )"}, {"(())", "( )"}, {"(s s)", "( s s )"}, {"(s|'b')", "( s | 'b' )"}, {"(|)", "( | )"}, {"(|s s)", "( | s s )"},
	} {
		body(t, c[0]+" 'a'", c[1]+" 'a'")
		body(t, "'a' "+c[0], "'a' "+c[1])
		body(t, "'a' "+c[0]+" s", "'a' "+c[1]+" s")
		body(t, c[0]+" "+c[0], c[1]+" "+c[1])
	}
}

// P7.1: each kind of node, as an Alt's kid.
func TestKidsOfAlt(t *testing.T) {
	for _, c := range [][2]string{
		{"s", "s"}, {"'b'", "'b'"}, {"s*", "s *"}, {"'b'+", "'b' +"}, {"s?", "s ?"}, {"(s*)", "s *"}, {"(s*)+", "( s * ) +"},
		{"s s", "s s"}, {"(s s)", "s s"}, {"s* s?", "s * s ?"}, {"(s|'b')", "( s | 'b' )"}, {"(|)", "( | )"}, {"(s s|)", "( s s | )"},
	} {
		body(t, c[0]+"|'a'", c[1]+" | 'a'")
		body(t, "'a'|"+c[0], "'a' | "+c[1])
		body(t, "'a'|"+c[0]+"|s", "'a' | "+c[1]+" | s")
		body(t, c[0]+"|"+c[0], c[1]+" | "+c[1])
		body(t, "|"+c[0]+"|", "| "+c[1]+" |")
	}
	body(t, "|'a'", "| 'a'")
	body(t, "'a'|", "'a' |")
	body(t, "'a'||s", "'a' | | s")
	body(t, "()|'a'|()", "| 'a' |")
}

// P7.1: brackets in brackets, some and as many levels deep as a tree has nodes for.
func TestDeep(t *testing.T) {
	body(t, "('a'('b'(s)*)+)?", "( 'a' ( 'b' s * ) + ) ?")
	body(t, "(('a'|'b')s|())()", "( ( 'a' | 'b' ) s | ) ( )")
	body(t, "(((s|'a')|'b')|'c')", "( ( s | 'a' ) | 'b' ) | 'c'")
	body(t, "s|('a'|('b'|'c'))", "s | ( 'a' | ( 'b' | 'c' ) )")
	body(t, "(((s 'a')'b')'c')", "( ( s 'a' ) 'b' ) 'c'")
	for _, k := range []int{1, 2, 10, api.MostNodes - 2} {
		open := strings.Repeat("( ", k)
		body(t, strings.Repeat("(", k)+"s*"+strings.Repeat(")*", k), open+"s *"+strings.Repeat(" ) *", k))
	}
	for _, k := range []int{1, 2, 10, api.MostNodes/2 - 2} {
		open := strings.Repeat("( ", k)
		body(t, strings.Repeat("(", k)+"s|'a'"+strings.Repeat(")|", k), open+"s | 'a'"+strings.Repeat(" ) |", k))
		body(t, strings.Repeat("(", k)+"s 'a'"+strings.Repeat(")s", k), open+"s 'a'"+strings.Repeat(" ) s", k))
	}
}

// P7.1: a line for each rule, whatever their order and what they call.
func TestLines(t *testing.T) {
	is(t, read(t, "s:t;t:'a';"), "s : t ;\nt : 'a' ;\n")
	is(t, read(t, "t:'a';s:t;"), "t : 'a' ;\ns : t ;\n")
	is(t, read(t, "a:;b:;c:|;"), "a : ;\nb : ;\nc : | ;\n")
	is(t, read(t, "sum: item ('+' item)*; # sums\nitem: 'n' | '(' sum ')';"), "sum : item ( '+' item ) * ;\nitem : 'n' | '(' sum ')' ;\n")
	var text, want strings.Builder
	for i := range api.MostNons {
		name := "r" + strconv.Itoa(i)
		text.WriteString(name + ":(" + name + " r0)?|'x';")
		want.WriteString(name + " : ( " + name + " r0 ) ? | 'x' ;\n")
	}
	is(t, read(t, text.String()), want.String())
}

// P7.1: a Term's Name is one token, whatever it holds.
func TestTerms(t *testing.T) {
	for _, name := range []string{" ", "a b", "|", "(", ")", ";", "*", ":", "#", "a | b ;", "  ", "\"", "\\n", "( s )", "s : ;"} {
		x := read(t, "s: '"+name+"' s | ('"+name+"' | s)* ;")
		want := "s : '" + name + "' s | ( '" + name + "' | s ) * ;\n"
		if got, e := show.Text(x); got != want || e != api.OK {
			t.Errorf("%q, %d, not %q", got, e, want)
		}
		tokens(t, x, 0, "'"+name+"'", "s", "|", "(", "'"+name+"'", "|", "s", ")", "*")
		if back := read(t, want); !rules.Same(back, x) {
			t.Errorf("%q is read as another tree", want)
		}
	}
}

// P7.1: the tokens of each rule of several.
func TestTokens(t *testing.T) {
	x := read(t, "s: t* u | ; t: ; u: ('a' 'b')+ ; v: v ; w: 'a b' ;")
	tokens(t, x, 0, "t", "*", "u", "|")
	tokens(t, x, 1)
	tokens(t, x, 2, "(", "'a'", "'b'", ")", "+")
	tokens(t, x, 3, "v")
	tokens(t, x, 4, "'a b'")
}

// longAs is a tree whose text has so many bytes.
func longAs(size int) rules.Tree {
	name := strings.Repeat("x", size-len("s : '' ;\n"))
	return rules.Tree{Rules: []rules.Rule{{Name: "s"}}, Nodes: []rules.Node{{Kind: rules.Term, Name: name}}}
}

// P7.1: a text of just MostText bytes, and of more: of a long Name, and of many rules.
func TestMostText(t *testing.T) {
	for _, size := range []int{api.MostText - 1, api.MostText} {
		x := longAs(size)
		is(t, x, "s : '"+x.Nodes[0].Name+"' ;\n")
		if text, _ := show.Text(x); len(text) != size {
			t.Errorf("%d bytes, not %d", len(text), size)
		}
	}
	// the last one is read from a text of MostText bytes, to which its own adds spaces and a line end
	long := []rules.Tree{longAs(api.MostText + 1), longAs(api.MostText + 3), read(t, "s:'"+strings.Repeat("x", api.MostText-5)+"';")}
	for _, body := range []string{strings.Repeat("r", api.MostText/24), strings.Repeat("r", api.MostText-2)} {
		var x rules.Tree
		for i := range 24 {
			x.Rules = append(x.Rules, rules.Rule{Name: body[i:], Body: i})
			x.Nodes = append(x.Nodes, rules.Node{Kind: rules.Call, Name: body})
		}
		long = append(long, x)
	}
	for _, x := range long {
		if text, e := show.Text(x); text != "" || e != api.ErrBig {
			t.Errorf("%d bytes, %d, not ErrBig", len(text), e)
		}
		for i, r := range x.Rules { // of Tokens it is no error
			want := x.Nodes[r.Body].Name
			if x.Nodes[r.Body].Kind == rules.Term {
				want = "'" + want + "'"
			}
			tokens(t, x, i, want)
		}
	}
}

// mayNot are trees that may not be, by what is wrong with each.
func mayNot() map[string]rules.Tree {
	a, s := rules.Node{Kind: rules.Term, Name: "a"}, rules.Node{Kind: rules.Call, Name: "s"}
	of := func(kind int, kids ...int) rules.Node { return rules.Node{Kind: kind, Kids: kids} }
	one := func(nodes ...rules.Node) rules.Tree {
		return rules.Tree{Rules: []rules.Rule{{Name: "s", Body: len(nodes) - 1}}, Nodes: nodes}
	}
	named := func(name string) rules.Tree {
		return rules.Tree{Rules: []rules.Rule{{Name: name}}, Nodes: []rules.Node{a}}
	}
	l := map[string]rules.Tree{
		"nothing":                  {},
		"no rules":                 {Nodes: []rules.Node{a}},
		"no nodes":                 {Rules: []rules.Rule{{Name: "s"}}},
		"a body below 0":           {Rules: []rules.Rule{{Name: "s", Body: -1}}, Nodes: []rules.Node{a}},
		"a body that is no node":   {Rules: []rules.Rule{{Name: "s", Body: 1}}, Nodes: []rules.Node{a}},
		"a Name twice":             {Rules: []rules.Rule{{Name: "s"}, {Name: "s", Body: 1}}, Nodes: []rules.Node{a, a}},
		"no Name":                  named(""),
		"a rule's Name of blanks":  named("s t"),
		"a rule's Name of a digit": named("1"),
		"a Term without a Name":    one(rules.Node{Kind: rules.Term}),
		"a Term's Name with a '":   one(rules.Node{Kind: rules.Term, Name: "a'b"}),
		"a Term's Name of a tab":   one(rules.Node{Kind: rules.Term, Name: "\t"}),
		"a Call of no rule":        one(rules.Node{Kind: rules.Call, Name: "t"}),
		"no kind":                  one(rules.Node{}),
		"another kind":             one(a, of(8, 0)),
		"a kind below 0":           one(of(-1)),
		"a Seq of one":             one(a, of(rules.Seq, 0)),
		"an Alt of none":           one(of(rules.Alt)),
		"an Alt of one":            one(a, of(rules.Alt, 0)),
		"a Star of none":           one(of(rules.Star)),
		"a Plus of two":            one(a, s, of(rules.Plus, 0, 1)),
		"an Opt of two":            one(a, s, of(rules.Opt, 0, 1)),
		"a Seq with a Name":        one(rules.Node{Kind: rules.Seq, Name: "s"}),
		"a Call with a kid":        one(a, rules.Node{Kind: rules.Call, Name: "s", Kids: []int{0}}),
		"a Term with a kid":        one(s, rules.Node{Kind: rules.Term, Name: "a", Kids: []int{0}}),
		"a kid of itself":          one(a, of(rules.Seq, 0, 1)),
		"a kid below 0":            one(a, of(rules.Star, -1)),
		"a kid that is no node":    one(a, of(rules.Star, 2)),
		"a kid that stands behind": {Rules: []rules.Rule{{Name: "s"}}, Nodes: []rules.Node{of(rules.Star, 1), a}},
		"two that lead in a ring":  one(of(rules.Star, 1), of(rules.Star, 0)),
		"a kid twice":              one(a, of(rules.Seq, 0, 0)),
		"kids out of order":        one(a, s, of(rules.Alt, 1, 0)),
		"a node of no rule":        one(a, s),
		"bodies out of order":      {Rules: []rules.Rule{{Name: "s", Body: 1}, {Name: "t"}}, Nodes: []rules.Node{a, a}},
	}
	var rows, names rules.Tree
	for i := range api.MostNons + 1 {
		names.Rules, names.Nodes = append(names.Rules, rules.Rule{Name: "r" + strconv.Itoa(i), Body: i}), append(names.Nodes, a)
	}
	rows.Nodes = append(rows.Nodes, s)
	for i := range api.MostNodes {
		rows.Nodes = append(rows.Nodes, of(rules.Opt, i))
	}
	rows.Rules = []rules.Rule{{Name: "s", Body: api.MostNodes}}
	l["too many rules"], l["too many nodes"] = names, rows
	return l
}

// P7.1, R2: a tree that may not be is ErrArg, whatever else is wrong, and beside it there is nothing.
func TestMayNotBe(t *testing.T) {
	for what, x := range mayNot() {
		if got, e := show.Text(x); got != "" || e != api.ErrArg {
			t.Errorf("%s: Text %q, %d", what, got, e)
		}
		for _, rule := range []int{-1, 0, 1, len(x.Rules), 1 << 40} {
			if got, e := show.Tokens(x, rule); got != nil || e != api.ErrArg {
				t.Errorf("%s: Tokens of rule %d: %q, %d", what, rule, got, e)
			}
		}
	}
	// ErrArg is ahead of ErrBig: nothing leads to the last node
	x := longAs(api.MostText + 1)
	x.Nodes = append(x.Nodes, x.Nodes[0])
	x.Rules[0].Body = 1
	for _, y := range []rules.Tree{x, longAs(2 * api.MostText)} {
		if got, e := show.Text(y); got != "" || e != api.ErrArg {
			t.Errorf("Text %q, %d, of a long tree that may not be", got, e)
		}
	}
}

// P7.1, R2: a rule that isn't there is ErrNone, and beside it there is nothing.
func TestNoSuchRule(t *testing.T) {
	for count, text := range []string{1: "s:'a';", 2: "s:t;t:|'a';", 3: "s:;t:;u:;"} {
		if count == 0 {
			continue
		}
		x := read(t, text)
		for _, rule := range []int{-1 << 63, -2, -1, count, count + 1, 100, 1 << 32, 1<<63 - 1} {
			if got, e := show.Tokens(x, rule); got != nil || e != api.ErrNone {
				t.Errorf("%s: Tokens of rule %d: %q, %d", text, rule, got, e)
			}
		}
		for rule := range count {
			if _, e := show.Tokens(x, rule); e != api.OK {
				t.Errorf("%s: Tokens of rule %d: %d", text, rule, e)
			}
		}
	}
}

// R3, R4, R5: a tree stays as it was, answers are its own, and the same call tells the same.
func TestNothingIsKept(t *testing.T) {
	x, same := read(t, "s: ('a' s)* | t+ ; t: 'b' | ;"), read(t, "s: ('a' s)* | t+ ; t: 'b' | ;")
	for range 3 {
		is(t, x, "s : ( 'a' s ) * | t + ;\nt : 'b' | ;\n")
		first, _ := show.Tokens(x, 0)
		second, _ := show.Tokens(x, 0)
		for i := range first {
			first[i] = "x"
		}
		_ = append(first, "x")
		if strings.Join(second, " ") != "( 'a' s ) * | t +" || !rules.Same(x, same) {
			t.Errorf("%q, or the tree is changed", second)
		}
	}
}

// R6: no list of Kids, and an empty one, are one.
func TestEmptyKids(t *testing.T) {
	x := read(t, "s: 'a' s | () () ;")
	for i := range x.Nodes {
		if len(x.Nodes[i].Kids) == 0 {
			x.Nodes[i].Kids = make([]int, 0, i)
		}
	}
	is(t, x, "s : 'a' s | ( ) ( ) ;\n")
	for i := range x.Nodes {
		if len(x.Nodes[i].Kids) == 0 {
			x.Nodes[i].Kids = nil
		}
	}
	is(t, x, "s : 'a' s | ( ) ( ) ;\n")
}
