package lower_test

import (
	"strconv"
	"strings"
	"testing"

	"probate/api"
	"probate/gram"
	"probate/lower"
	"probate/rules"
)

// mayNot are trees that may not be, by what is wrong with each.
func mayNot() map[string]rules.Tree {
	a, s := rules.Node{Kind: rules.Term, Name: "a"}, rules.Node{Kind: rules.Call, Name: "s"}
	of := func(kind int, kids ...int) rules.Node { return rules.Node{Kind: kind, Kids: kids} }
	one := func(nodes ...rules.Node) rules.Tree {
		return rules.Tree{Rules: []rules.Rule{{Name: "s", Body: len(nodes) - 1}}, Nodes: nodes}
	}
	named := func(name string) rules.Tree {
		return rules.Tree{Rules: []rules.Rule{{Name: name}}, Nodes: []rules.Node{a}}
	}
	l := map[string]rules.Tree{
		"nothing":                  {},
		"no rules":                 {Nodes: []rules.Node{a}},
		"no nodes":                 {Rules: []rules.Rule{{Name: "s"}}},
		"a body below 0":           {Rules: []rules.Rule{{Name: "s", Body: -1}}, Nodes: []rules.Node{a}},
		"a body that is no node":   {Rules: []rules.Rule{{Name: "s", Body: 1}}, Nodes: []rules.Node{a}},
		"a body that is a kid":     {Rules: []rules.Rule{{Name: "s"}}, Nodes: []rules.Node{a, of(rules.Star, 0)}},
		"a body of two rules":      {Rules: []rules.Rule{{Name: "s"}, {Name: "t"}}, Nodes: []rules.Node{a}},
		"bodies out of order":      {Rules: []rules.Rule{{Name: "s", Body: 1}, {Name: "t"}}, Nodes: []rules.Node{a, a}},
		"a Name twice":             {Rules: []rules.Rule{{Name: "s"}, {Name: "s", Body: 1}}, Nodes: []rules.Node{a, a}},
		"no Name":                  named(""),
		"a rule's Name of blanks":  named("s t"),
		"a rule's Name of a digit": named("1"),
		"a Term without a Name":    one(rules.Node{Kind: rules.Term}),
		"a Term's Name with a '":   one(rules.Node{Kind: rules.Term, Name: "a'b"}),
		"a Term's Name of a tab":   one(rules.Node{Kind: rules.Term, Name: "\t"}),
		"a Call of no rule":        one(rules.Node{Kind: rules.Call, Name: "t"}),
		"a Call without a Name":    one(rules.Node{Kind: rules.Call}),
		"no kind":                  one(rules.Node{}),
		"another kind":             one(a, of(8, 0)),
		"a kind below 0":           one(of(-1)),
		"a Seq of one":             one(a, of(rules.Seq, 0)),
		"an Alt of none":           one(of(rules.Alt)),
		"an Alt of one":            one(a, of(rules.Alt, 0)),
		"a Star of none":           one(of(rules.Star)),
		"a Star of two":            one(a, s, of(rules.Star, 0, 1)),
		"a Plus of none":           one(of(rules.Plus)),
		"a Plus of two":            one(a, s, of(rules.Plus, 0, 1)),
		"an Opt of none":           one(of(rules.Opt)),
		"an Opt of two":            one(a, s, of(rules.Opt, 0, 1)),
		"a Seq with a Name":        one(rules.Node{Kind: rules.Seq, Name: "s"}),
		"a Star with a Name":       one(a, rules.Node{Kind: rules.Star, Name: "a", Kids: []int{0}}),
		"a Call with a kid":        one(a, rules.Node{Kind: rules.Call, Name: "s", Kids: []int{0}}),
		"a Term with a kid":        one(s, rules.Node{Kind: rules.Term, Name: "a", Kids: []int{0}}),
		"a kid of itself":          one(a, of(rules.Seq, 0, 1)),
		"a kid below 0":            one(a, of(rules.Star, -1)),
		"a kid that is no node":    one(a, of(rules.Star, 2)),
		"a kid that stands behind": {Rules: []rules.Rule{{Name: "s"}}, Nodes: []rules.Node{of(rules.Star, 1), a}},
		"two that lead in a ring":  one(of(rules.Star, 1), of(rules.Star, 0)),
		"a kid twice":              one(a, of(rules.Seq, 0, 0)),
		"a kid of two nodes":       one(a, of(rules.Star, 0), of(rules.Seq, 0, 1)),
		"kids out of order":        one(a, s, of(rules.Alt, 1, 0)),
		"a node of no rule":        one(a, s),
	}
	var row, names rules.Tree
	row.Nodes = append(row.Nodes, s)
	for i := range api.MostNodes {
		row.Nodes = append(row.Nodes, of(rules.Opt, i))
	}
	row.Rules = []rules.Rule{{Name: "s", Body: api.MostNodes}}
	for i := range api.MostNons + 1 {
		names.Rules, names.Nodes = append(names.Rules, rules.Rule{Name: "r" + strconv.Itoa(i), Body: i}), append(names.Nodes, a)
	}
	l["too many nodes"], l["too many rules"] = row, names
	return l
}

// P8.1, R2: a tree that may not be is ErrArg.
func TestMayNotBe(t *testing.T) {
	for what, x := range mayNot() {
		if rules.Right(x) {
			t.Errorf("%s may be", what)
		}
		fails(t, what, x, api.ErrArg)
	}
}

// terms are so many Quotes, no two the same, with something between each two.
func terms(many int, between string) string {
	var l []string
	for i := range many {
		l = append(l, "'"+strconv.Itoa(i)+"'")
	}
	return strings.Join(l, between)
}

// limit holds a text whose grammar may just be, with these numbers of terminals, nonterminals and productions, and one whose grammar may not.
func limit(t *testing.T, text string, nums [3]int, beyond string) {
	t.Helper()
	g, names, e := lower.Lower(read(t, text))
	if e != api.OK || !gram.Right(g) || [3]int{g.Terms, g.Nons, len(g.Prods)} != nums || len(names) != nums[0] {
		t.Errorf("%q: %v, %q, %d", text, g, names, e)
	}
	fails(t, beyond, read(t, beyond), api.ErrBig)
}

// P8.1: as many terminals as may be, and one more, be it in another rule.
func TestMostTerms(t *testing.T) {
	limit(t, "s:"+terms(16, "|")+";", [3]int{16, 1, 16}, "s:"+terms(17, "|")+";")
	limit(t, "s:"+terms(16, "|")+"|'0'|'15';", [3]int{16, 1, 18}, "s:"+terms(16, "|")+"|'0'|'15'|'x';")
	limit(t, "s:"+terms(8, " ")+";t:"+terms(16, "|")+";", [3]int{16, 2, 17}, "s:"+terms(8, " ")+";t:"+terms(16, "|")+";u:'x';")
	limit(t, "s:"+terms(16, "?|")+"|t;t:;", [3]int{16, 17, 48}, "s:"+terms(16, "?|")+"|t;t:'x';")
}

// rulesOf are so many rules of a body.
func rulesOf(many int, body string) string {
	var b strings.Builder
	for i := range many {
		b.WriteString("r" + strconv.Itoa(i) + ":" + body + ";")
	}
	return b.String()
}

// deep is a Term in so many Opts, or the like, of which the outermost one is the rule's body.
func deep(many int, mark string) string {
	return "s:" + strings.Repeat("(", many) + "'a'" + strings.Repeat(")"+mark, many) + ";"
}

// P8.1: as many nonterminals as may be, and one more: rules, nodes of each kind, and some of both.
func TestMostNons(t *testing.T) {
	limit(t, rulesOf(24, "'a'"), [3]int{1, 24, 24}, rulesOf(23, "'a'")+"s:'a' ();")
	for _, k := range []struct {
		text  string
		prods int
	}{{"'a'*", 2}, {"'a'+", 2}, {"'a'?", 2}, {"()", 1}, {"('a' r0)", 1}, {"('a'|r0|'a' 'a')", 3}} {
		limit(t, rulesOf(22, "'a'")+"s: r0 "+k.text+";", [3]int{1, 24, 23 + k.prods}, rulesOf(23, "'a'")+"s: r0 "+k.text+";")
	}
	for _, mark := range []string{"*", "+", "?"} {
		limit(t, deep(24, mark), [3]int{1, 24, 48}, deep(25, mark))
		fails(t, "nodes as many as may be", read(t, deep(199, mark)), api.ErrBig)
	}
}

// P8.1: as many productions as may be, and one more.
func TestMostProds(t *testing.T) {
	limit(t, "s:"+strings.Repeat("'a'|", 59)+"'a';", [3]int{1, 1, 60}, "s:"+strings.Repeat("'a'|", 60)+"'a';")
	limit(t, "s:"+strings.Repeat("|", 59)+";", [3]int{0, 1, 60}, "s:"+strings.Repeat("|", 60)+";")
	limit(t, "s:"+strings.Repeat("s 'a'|", 59)+"'a';", [3]int{1, 1, 60}, "s:"+strings.Repeat("s 'a'|", 60)+"'a';")
	limit(t, rulesOf(20, "'a'||r0"), [3]int{1, 20, 60}, rulesOf(20, "'a'||r0")+"s:;")
	limit(t, rulesOf(18, "||")+"s: 'a'* 'a'+ ();", [3]int{1, 22, 60}, rulesOf(18, "||")+"s: 'a'* 'a'+ 'a'?;")
	limit(t, "s: 'a' ("+strings.Repeat("|", 58)+");", [3]int{1, 2, 60}, "s: 'a' ("+strings.Repeat("|", 59)+");")
}

// P8.1: as many symbols of a production as may be, and one more: in a rule's Seq, in an Alt's, and in one that has its own nonterminal.
func TestMostRight(t *testing.T) {
	for text, nums := range map[string][3]int{"r": {1, 1, 1}, "r|": {1, 1, 2}, "|r|": {1, 1, 3}, "(r)*": {1, 2, 3}, "(r) s": {1, 2, 2}, "(r)(r)": {1, 3, 3}, "s;t:r": {1, 2, 2}} {
		limit(t, "s:"+strings.ReplaceAll(text, "r", strings.Repeat("'a' ", 8))+";", nums, "s:"+strings.ReplaceAll(text, "r", strings.Repeat("'a' ", 9))+";")
	}
	limit(t, "s:"+strings.Repeat("s ", 8)+";", [3]int{0, 1, 1}, "s:"+strings.Repeat("s ", 9)+";")
	limit(t, "s:"+strings.Repeat("()", 8)+";", [3]int{0, 9, 9}, "s:"+strings.Repeat("()", 9)+";")
	limit(t, "s:"+strings.Repeat("'a'? ", 8)+";", [3]int{1, 9, 17}, "s:"+strings.Repeat("'a'? ", 9)+";")
}

// P8.1, R2: ErrArg is ahead of ErrBig.
func TestMayNotBeAndTooBig(t *testing.T) {
	for _, text := range []string{"s:" + terms(17, "|") + ";", deep(25, "*"), "s:" + strings.Repeat("|", 60) + ";", "s:" + strings.Repeat("s ", 9) + ";"} {
		fails(t, text, read(t, text), api.ErrBig)
		for what, change := range map[string]func(x *rules.Tree){
			"no rules":              func(x *rules.Tree) { x.Rules = nil },
			"a Name of a blank":     func(x *rules.Tree) { x.Rules[0].Name = " " },
			"a body below 0":        func(x *rules.Tree) { x.Rules[0].Body = -1 },
			"a node that is nobody": func(x *rules.Tree) { x.Nodes = append(x.Nodes, rules.Node{Kind: rules.Seq}) },
			"a Call of no rule":     func(x *rules.Tree) { x.Nodes[0] = rules.Node{Kind: rules.Call, Name: "t"} },
			"no kind":               func(x *rules.Tree) { x.Nodes[0] = rules.Node{} },
			"a Star of none":        func(x *rules.Tree) { x.Nodes[0] = rules.Node{Kind: rules.Star} },
		} {
			x := read(t, text)
			change(&x)
			fails(t, text+" with "+what, x, api.ErrArg)
		}
	}
}
