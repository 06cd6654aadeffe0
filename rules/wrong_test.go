package rules_test

import (
	"strconv"
	"strings"
	"testing"

	"probate/api"
	"probate/rules"
)

// P6.1: scan's errors, with their places, whatever else is wrong.
func TestScanErrors(t *testing.T) {
	fails(t, "s: 'a' @;", 7, api.ErrForm)
	fails(t, "@", 0, api.ErrForm)
	fails(t, "s: 'a;", 3, api.ErrForm)
	fails(t, "s: '';", 3, api.ErrForm)
	fails(t, "s: 9;", 3, api.ErrForm)
	fails(t, "s: s; \x80", 6, api.ErrForm)
	fails(t, "; s @", 4, api.ErrForm) // the ; is as wrong, but bytes are told apart first
	fails(t, "s s s s '", 8, api.ErrForm)
	fails(t, "s: t; s: u; 9", 12, api.ErrForm)
	for _, c := range []string{" ", "a", ";", "@", "("} {
		fails(t, strings.Repeat(c, api.MostText+1), 0, api.ErrBig)
		fails(t, "s: 'a';"+strings.Repeat(c, api.MostText), 0, api.ErrBig)
	}
	whole := "s: 'a';" + strings.Repeat(" ", api.MostText-7)
	tells(t, whole, one("s", term("a")))
	fails(t, whole+" ", 0, api.ErrBig)
	tells(t, "s: 'a';#"+strings.Repeat("@", api.MostText-8), one("s", term("a")))
}

// P6.1: the place of the first token that may not stand where it does, at each place of a rule.
func TestMisplaced(t *testing.T) {
	for _, c := range []struct {
		text string
		at   int
	}{
		// where a rule's Name must stand
		{": 'a';", 0}, {"'a';", 0}, {"(s): 'a';", 0}, {";", 0}, {"|", 0}, {")", 0}, {"*", 0}, {"+", 0}, {"?", 0}, {"  ;", 2}, {"# s\n: s;", 4},
		// where the : must stand
		{"s s: 'a';", 2}, {"s 'a';", 2}, {"s ;", 2}, {"s | s;", 2}, {"s (s);", 2}, {"s );", 2}, {"s* : s;", 1}, {"s + : s;", 2}, {"s?: s;", 1},
		// where an item may begin
		{"s: : s;", 3}, {"s: s: s;", 4}, {"s: s : s;", 5}, {"s: *;", 3}, {"s: + s;", 3}, {"s: ?;", 3}, {"s: s | *;", 7}, {"s: |+;", 4}, {"s: | ?;", 5},
		{"s: (*);", 4}, {"s: (+);", 4}, {"s: ( ?);", 5}, {"s: (s | *);", 8}, {"s: (|*);", 5}, {"s: () (*);", 7}, {"s: (s: s);", 5}, {"s: (: s);", 4},
		// behind an item, and behind *, + and ?
		{"s: s** ;", 5}, {"s: s*+;", 5}, {"s: s*?;", 5}, {"s: s+*;", 5}, {"s: s++;", 5}, {"s: s?+;", 5}, {"s: s??;", 5}, {"s: s* s **;", 9}, {"s: s*:;", 5},
		// ) without (
		{"s: );", 3}, {"s: s);", 4}, {"s: 'a' );", 7}, {"s: s | );", 7}, {"s: (s));", 6}, {"s: ()());", 7}, {"s: s*);", 5}, {"s: (()));", 7},
		// ( without )
		{"s: (;", 4}, {"s: (s;", 5}, {"s: (s|;", 6}, {"s: (s*;", 6}, {"s: ((s);", 7}, {"s: s (;", 6}, {"s: (()()|(;", 10}, {"s: (s; t: s);", 5},
		// behind the last ;
		{"s: s; ;", 6}, {"s: s;;", 5}, {"s: s; 'a'", 6}, {"s: s; | s;", 6}, {"s: s; (s);", 6}, {"s: s; )", 6}, {"s: s; *", 6}, {"s: s;:", 5}, {"s: s;*;", 5},
		{"s: s; t s;", 8}, {"s: s; t;", 7}, {"s: s; t: *;", 9}, {"s: s; t: s t: s;", 12}, {"s: s; t: u; u: );", 15},
		// the first of several, whatever stands behind it
		{": ; ) *", 0}, {"s s ) s:", 2}, {"s: ** )", 3}, {"s: s) ) ;;", 4},
		// wherever blanks and remarks stand
		{"\n\ts # a\n  s", 10}, {"s:# a\ns#**\n\n*\t*", 14}, {"s: s;\r\n# t: s;\r\n;", 16},
	} {
		fails(t, c.text, c.at, api.ErrForm)
	}
}

// P6.1: text's length, where the tokens end too soon, at each place at which they may; remarks and blanks are part of it.
func TestTooShort(t *testing.T) {
	behind := []string{"", " ", "\n", "\t\r\n ", "#", " # s: s;", "# a\n", "\n# '\n\n", strings.Repeat(" ", 300)}
	for _, text := range []string{
		"", "s", "s:", "s: s", "s: 'a'", "s: s*", "s: s 'a'?", "s: |", "s: s |", "s: s | s", "s: (", "s: ()", "s: (s", "s: (s*", "s: (s |", "s: (s | s",
		"s: (s)", "s: (s)+", "s: s (s", "s: ((s)", "s: ((s))", "s: ((", "s: (()|(", "s: s; t", "s: s; t:", "s: s; t: s", "s: s; t: (", "s: s; t: s; u: 'a' | 'b'",
	} {
		for _, b := range behind {
			fails(t, text+b, len(text+b), api.ErrForm)
			fails(t, b+"\n"+text, len(b+"\n"+text), api.ErrForm)
		}
	}
	for _, b := range behind {
		tells(t, exampleText+b, example())
		tells(t, b+"\n"+exampleText, example())
	}
	// each beginning of a text, but where a rule has ended
	text := "s : 'a' ( s * | t + ) ? ; t : ;"
	whole := strings.Index(text, ";") + 1
	for i := range len(text) {
		if text[:i] == "s : '" || text[:i] == "s : 'a" {
			fails(t, text[:i], 4, api.ErrForm) // scan's
		} else if strings.TrimSpace(text[:i]) != text[:whole] {
			fails(t, text[:i], i, api.ErrForm)
		}
	}
}

// manyRules is a text of so many rules, of a Name of their own each, all with that body.
func manyRules(count int, body string) string {
	var b strings.Builder
	for i := range count {
		b.WriteString("r" + strconv.Itoa(i) + ":" + body + ";\n")
	}
	return b.String()
}

// P6.1: just as many rules as may be, and one more.
func TestMostRules(t *testing.T) {
	const most = api.MostNons
	var want rules.Tree
	for i := range most {
		want.Nodes = append(want.Nodes, call("r0"))
		want.Rules = append(want.Rules, rule("r"+strconv.Itoa(i), i))
	}
	tells(t, manyRules(most, "r0"), want)
	tells(t, manyRules(most-1, "r0")+"r23: r0;", want)
	for _, more := range []int{1, 2, 10, 200} {
		fails(t, manyRules(most+more, "r0"), 0, api.ErrBig)
	}
	fails(t, " # behind a remark\n"+manyRules(most+1, "'a'"), 0, api.ErrBig)
}

// P6.1: just as many nodes as may be, and one more, of one rule and of several.
func TestMostNodes(t *testing.T) {
	const most = api.MostNodes
	var row, empties []rules.Node
	var kids []int
	for i := range most - 1 {
		row, empties, kids = append(row, term("a")), append(empties, seq()), append(kids, i)
	}
	tells(t, "s:"+strings.Repeat("'a'", most-1)+";", one("s", append(row, seq(kids...))...))
	tells(t, "s:"+strings.Repeat("|", most-2)+";", one("s", append(empties, alt(kids...))...))
	fails(t, "s:"+strings.Repeat("'a'", most)+";", 0, api.ErrBig)
	fails(t, "s:"+strings.Repeat("|", most-1)+";", 0, api.ErrBig)
	fails(t, "s:"+strings.Repeat("s ", 1500)+";", 0, api.ErrBig)
	fails(t, "s:"+strings.Repeat("|", api.MostText-3)+";", 0, api.ErrBig)
	fails(t, "s:"+strings.Repeat("(", most)+"s"+strings.Repeat(")*", most)+";", 0, api.ErrBig)
	// 23 rules of three nodes each, and one of all that are left
	ahead, last := manyRules(api.MostNons-1, "r0 'b'"), "r23:"+strings.Repeat("'a'", most-3*(api.MostNons-1)-1)
	if got, at, e := rules.Read(ahead + last + ";"); len(got.Nodes) != most || at != 0 || e != api.OK || !rules.Right(got) {
		t.Errorf("%d nodes, %d, %d", len(got.Nodes), at, e)
	}
	fails(t, ahead+last+"'a';", 0, api.ErrBig)
	fails(t, ahead+"'a'"+last+";", len(ahead), api.ErrForm)
}

// P6.1: the place of the Name of the first rule that an earlier one has, too.
func TestTwice(t *testing.T) {
	fails(t, "s: 'a'; s: 'b';", 8, api.ErrTwice)
	fails(t, "s:;s:;", 3, api.ErrTwice)
	fails(t, "s: s; s: s;", 6, api.ErrTwice)
	fails(t, "s:; t:; t:; s:;", 8, api.ErrTwice)
	fails(t, "s:; t:; s:; t:;", 8, api.ErrTwice)
	fails(t, "s:; t:; u:; t:; s:; u:;", 12, api.ErrTwice)
	fails(t, "s:;s:;s:;", 3, api.ErrTwice)
	fails(t, "# s: ;\n s: 's' ;\n # again\n\ts: ;", 27, api.ErrTwice)
	fails(t, manyRules(api.MostNons-1, "'a'")+"r22: 'a';", len(manyRules(api.MostNons-1, "'a'")), api.ErrTwice)
	fails(t, "r0:;"+manyRules(api.MostNons-1, "'a'"), 4, api.ErrTwice)
	tells(t, "s:; S:; s1:; s_:; ss:;", tree(nodes(seq(), seq(), seq(), seq(), seq()), rule("s", 0), rule("S", 1), rule("s1", 2), rule("s_", 3), rule("ss", 4)))
}

// P6.1: the place of the first Name within a rule that no rule has; a later rule may have it.
func TestNoSuchRule(t *testing.T) {
	fails(t, "s: t;", 3, api.ErrName)
	fails(t, "s: S;", 3, api.ErrName)
	fails(t, "s: s1;", 3, api.ErrName)
	fails(t, "ss: s;", 4, api.ErrName)
	fails(t, "s: s t;", 5, api.ErrName)
	fails(t, "s: s | 'a' (t)*;", 12, api.ErrName)
	fails(t, "s: t u;", 3, api.ErrName)
	fails(t, "s: ((t) u)*;", 5, api.ErrName)
	fails(t, "s: t; t: u v; v:;", 9, api.ErrName)
	fails(t, "s: v; t: u; v: w;", 9, api.ErrName)
	fails(t, "s: 't' t;", 7, api.ErrName)
	fails(t, "s: 't'; # t: 'a';\n u: t;", 22, api.ErrName)
	fails(t, manyRules(api.MostNons, "r23 r24"), 7, api.ErrName)
	tells(t, "s: t; t: s;", tree(nodes(call("t"), call("s")), rule("s", 0), rule("t", 1)))
	tells(t, "s: u; t: s; u: t;", tree(nodes(call("u"), call("s"), call("t")), rule("s", 0), rule("t", 1), rule("u", 2)))
}

// P6.1, R2: of several errors the one that the chapter names first is told, wherever it stands.
func TestWhichError(t *testing.T) {
	tooMany := manyRules(api.MostNons+1, "'a'")
	tooGreat := "g:" + strings.Repeat("'a'", api.MostNodes) + ";"
	const twice, none = "s:; s:;", "n: m;"
	// scan's ahead of all
	for _, text := range []string{tooMany, tooGreat, twice, none, "s: *", "s: (;", "s", "s: s;"} {
		fails(t, text+" @", len(text)+1, api.ErrForm)
		fails(t, "@"+text, 0, api.ErrForm)
		fails(t, text+strings.Repeat(" ", api.MostText), 0, api.ErrBig)
		fails(t, "@"+text+strings.Repeat(" ", api.MostText), 0, api.ErrBig)
	}
	// ErrForm ahead of ErrBig, ErrTwice and ErrName
	for _, text := range []string{tooMany, tooGreat, twice, none, tooMany + tooGreat + twice + none} {
		fails(t, text+"*", len(text), api.ErrForm)
		fails(t, text+"z: (;", len(text)+4, api.ErrForm)
		fails(t, text+"z: ", len(text)+3, api.ErrForm)
		fails(t, "z: s s: ;"+text, 6, api.ErrForm)
		fails(t, text+";@", len(text)+1, api.ErrForm)
	}
	// ErrBig ahead of ErrTwice and ErrName
	for _, text := range []string{twice, none, none + twice, twice + none} {
		fails(t, text+tooMany, 0, api.ErrBig)
		fails(t, tooMany+text, 0, api.ErrBig)
		fails(t, text+tooGreat, 0, api.ErrBig)
		fails(t, tooGreat+text, 0, api.ErrBig)
	}
	fails(t, strings.Repeat("s:;", api.MostNons+1), 0, api.ErrBig)
	fails(t, strings.Repeat("s:;", api.MostNons), 3, api.ErrTwice)
	fails(t, "s:"+strings.Repeat("t ", api.MostNodes)+";", 0, api.ErrBig)
	fails(t, "s:"+strings.Repeat("t ", api.MostNodes-1)+";", 2, api.ErrName)
	// ErrTwice ahead of ErrName
	fails(t, "n: m; n: m;", 6, api.ErrTwice)
	fails(t, none+twice, 9, api.ErrTwice)
	fails(t, twice+none, 4, api.ErrTwice)
	fails(t, none+" u: v w; w: x;"+twice, len(none)+14+4, api.ErrTwice)
}
