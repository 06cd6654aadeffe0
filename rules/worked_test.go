package rules_test

import (
	"math/rand"
	"regexp"
	"slices"
	"sort"
	"strings"
	"testing"

	"probate/api"
	"probate/rules"
	"probate/scan"
)

// What follows works Read's answer out a second time, by the chapter's words: from a text's tokens, each written as one byte, a Name as n, a Quote as q, a Mark as itself.

// bracketed is what stands in brackets that have none within them, and whole is a text of rules without brackets.
var (
	bracketed = regexp.MustCompile(`\(((?:[nq][*+?]?)*\|)*(?:[nq][*+?]?)*\)`)
	whole     = regexp.MustCompile(`^(n:((?:[nq][*+?]?)*\|)*(?:[nq][*+?]?)*;)+$`)
)

// isWhole takes brackets out from within, each pair as one atom.
func isWhole(code string) bool {
	for {
		shorter := bracketed.ReplaceAllString(code, "q")
		if shorter == code {
			return whole.MatchString(code)
		}
		code = shorter
	}
}

// mayGoOn tells whether a text of rules begins so: if there is one, one of these is it.
func mayGoOn(code string) bool {
	open := max(0, strings.Count(code, "(")-strings.Count(code, ")"))
	return isWhole(code) || isWhole(code+strings.Repeat(")", open)+";") || isWhole(code+":;") || isWhole(code+"n:;")
}

func coded(tokens []scan.Token) string {
	var b strings.Builder
	for _, k := range tokens {
		b.WriteString([]string{"", "n", "q", k.Text}[k.Kind])
	}
	return b.String()
}

// part is a node that has its Kids in it.
type part struct {
	kind int
	name string
	kids []*part
}

// inPieces are tokens, parted at that mark where it isn't in brackets.
func inPieces(l []scan.Token, mark string) [][]scan.Token {
	pieces := [][]scan.Token{nil}
	open := 0
	for _, k := range l {
		at := coded([]scan.Token{k})
		open += strings.Count(at, "(") - strings.Count(at, ")")
		if at == mark && open == 0 {
			pieces = append(pieces, nil)
		} else {
			pieces[len(pieces)-1] = append(pieces[len(pieces)-1], k)
		}
	}
	return pieces
}

// ofAlternatives, ofItems and ofItem tell what stands for tokens that are right.
func ofAlternatives(l []scan.Token) *part {
	var kids []*part
	for _, piece := range inPieces(l, "|") {
		kids = append(kids, ofItems(piece))
	}
	if len(kids) == 1 {
		return kids[0]
	}
	return &part{kind: 2, kids: kids}
}

func ofItems(l []scan.Token) *part {
	var kids []*part
	for len(l) > 0 {
		size := sizeOfItem(coded(l))
		kids = append(kids, ofItem(l[:size]))
		l = l[size:]
	}
	if len(kids) == 1 {
		return kids[0]
	}
	return &part{kind: 1, kids: kids}
}

// sizeOfItem tells how many tokens the first item has: a new one begins with what is no *, + or ?, out of brackets.
func sizeOfItem(code string) int {
	open := 0
	for i, c := range code {
		if i > 0 && open == 0 && !strings.ContainsRune("*+?", c) {
			return i
		}
		if c == '(' {
			open++
		} else if c == ')' {
			open--
		}
	}
	return len(code)
}

func ofItem(l []scan.Token) *part {
	last := l[len(l)-1]
	if kind := strings.Index("...*+?", coded([]scan.Token{last})); kind >= 3 {
		return &part{kind: kind, kids: []*part{ofItem(l[:len(l)-1])}}
	}
	switch last.Kind {
	case scan.Name:
		return &part{kind: 6, name: last.Text}
	case scan.Quote:
		return &part{kind: 7, name: last.Text}
	}
	return ofAlternatives(l[1 : len(l)-1])
}

// numbered puts a part's nodes behind others, Kids first.
func numbered(to *[]rules.Node, p *part) int {
	n := rules.Node{Kind: p.kind, Name: p.name}
	for _, k := range p.kids {
		n.Kids = append(n.Kids, numbered(to, k))
	}
	*to = append(*to, n)
	return len(*to) - 1
}

// worked works Read's answer out.
func worked(text string) (rules.Tree, int, api.Errno) {
	tokens, at, e := scan.Scan(text)
	if e != api.OK {
		return rules.Tree{}, at, e
	}
	code := coded(tokens)
	if !isWhole(code) {
		// what a text of rules begins with begins with the same
		if i := sort.Search(len(code), func(i int) bool { return !mayGoOn(code[:i+1]) }); i < len(code) {
			return rules.Tree{}, tokens[i].At, api.ErrForm
		}
		return rules.Tree{}, len(text), api.ErrForm
	}
	var x rules.Tree
	names := map[string]int{} // how many rules have each
	pieces := inPieces(tokens, ";")
	for _, piece := range pieces[:len(pieces)-1] {
		names[piece[0].Text]++
		x.Rules = append(x.Rules, rules.Rule{Name: piece[0].Text, Body: numbered(&x.Nodes, ofAlternatives(piece[2:]))})
	}
	if len(x.Rules) > 24 || len(x.Nodes) > 200 {
		return rules.Tree{}, 0, api.ErrBig
	}
	if at, e := workedNames(tokens, code, names); e != api.OK {
		return rules.Tree{}, at, e
	}
	return x, 0, api.OK
}

// workedNames works out what is wrong with names: a rule's is the one ahead of a :.
func workedNames(tokens []scan.Token, code string, names map[string]int) (int, api.Errno) {
	seen := map[string]bool{}
	for i, k := range tokens {
		if strings.HasPrefix(code[i:], "n:") {
			if seen[k.Text] {
				return k.At, api.ErrTwice
			}
			seen[k.Text] = true
		}
	}
	for _, k := range tokens {
		if k.Kind == scan.Name && names[k.Text] == 0 {
			return k.At, api.ErrName
		}
	}
	return 0, api.OK
}

// asWorked holds Read of a text against that, and that what is read may be (P6.3), and tells the error.
func asWorked(t *testing.T, text string) api.Errno {
	t.Helper()
	got, at, e := rules.Read(text)
	want, place, f := worked(text)
	if flat(got) != flat(want) || at != place || e != f {
		t.Fatalf("Read(%q): %s, %d, %d, not %s, %d, %d", text, flat(got), at, e, flat(want), place, f)
	}
	if e != api.OK && !isZero(got) || rules.Right(got) != (e == api.OK) {
		t.Fatalf("Read(%q): %s beside %d", text, flat(got), e)
	}
	return e
}

// spelled are what codes' bytes stand for, where a Name and a Quote may be any of a few.
func spelled(r *rand.Rand, code string) string {
	var b strings.Builder
	for _, c := range code {
		switch c {
		case 'n':
			b.WriteString([]string{"s ", "t ", "u "}[r.Intn(3)])
		case 'q':
			b.WriteString([]string{"'a'", "'b'", "';'", "'('"}[r.Intn(4)])
		default:
			b.WriteRune(c)
		}
	}
	return b.String()
}

const codes = "nq:;|()*+?"

// P6.1: all texts of a few tokens, and all rules of a few tokens, against the chapter's words.
func TestAllShort(t *testing.T) {
	r := rand.New(rand.NewSource(61))
	told := map[api.Errno]int{}
	var all func(ahead, of string, more int)
	all = func(ahead, of string, more int) {
		told[asWorked(t, spelled(r, ahead))]++
		for i := 0; more > 0 && i < len(of); i++ {
			all(ahead+of[i:i+1], of, more-1)
		}
	}
	all("", codes, 4)
	all("n:", codes, 4)
	all("n:", "q|()*;", 6)
	all("n:;n:", "nq;:*", 5)
	if told[api.OK] < 300 || told[api.ErrForm] < 1000 || told[api.ErrTwice] < 10 || told[api.ErrName] < 10 {
		t.Errorf("%v: too few to show anything", told)
	}
}

// anyAlternatives are alternatives, as a code, of some depth at most.
func anyAlternatives(r *rand.Rand, depth int) string {
	var b strings.Builder
	for i := range 1 + r.Intn(3)*r.Intn(2) {
		if i > 0 {
			b.WriteString("|")
		}
		for range r.Intn(4) {
			switch k := r.Intn(5); {
			case k < 2:
				b.WriteString("n")
			case k < 4 || depth == 0:
				b.WriteString("q")
			default:
				b.WriteString("(" + anyAlternatives(r, depth-1) + ")")
			}
			b.WriteString([]string{"", "", "*", "+", "?"}[r.Intn(5)])
		}
	}
	return b.String()
}

// anyRules are rules as a code.
func anyRules(r *rand.Rand, most int) string {
	var b strings.Builder
	for range 1 + r.Intn(most) {
		b.WriteString("n:" + anyAlternatives(r, 4) + ";")
	}
	return b.String()
}

// anyText is a text of a code whose Names, but those of rules, are some rule's, if they can be.
func anyText(r *rand.Rand, code string) string {
	gaps := []string{" ", "", "", "\n", " # it's\n", "\t"}
	count := max(1, strings.Count(code, "n:"))
	var b strings.Builder
	next := 0
	for i, c := range code {
		switch {
		case c == 'n' && strings.HasPrefix(code[i:], "n:"):
			b.WriteString(name(next))
			next++
		case c == 'n':
			b.WriteString(name(r.Intn(count)) + " ")
		case c == 'q':
			b.WriteString([]string{"'a'", "'b c'", "';'", "':'", "'('", "'x_1'"}[r.Intn(6)])
		default:
			b.WriteRune(c)
		}
		b.WriteString(gaps[r.Intn(len(gaps))])
	}
	return b.String()
}

// name is the nth of many.
func name(n int) string {
	return string([]byte{"sTu"[n%3], '_', byte('0' + n/10), byte('0' + n%10)})
}

// P6.1: texts of any rules, as they are, and with one token put in, dropped or changed, against the chapter's words.
func TestAny(t *testing.T) {
	r := rand.New(rand.NewSource(62))
	told := map[api.Errno]int{}
	for i := range 6000 {
		code := anyRules(r, 3)
		if e := asWorked(t, anyText(r, code)); e != api.OK {
			t.Fatalf("%s: %d", code, e)
		}
		told[asWorked(t, spelled(r, code))]++ // names may be had twice, or not at all
		at, c := r.Intn(len(code)), codes[r.Intn(len(codes)):][:1]
		told[asWorked(t, anyText(r, code[:at]+c+code[at:]))]++
		told[asWorked(t, anyText(r, code[:at]+code[at+1:]))]++
		told[asWorked(t, anyText(r, code[:at]+c+code[at+1:]))]++
		told[asWorked(t, anyText(r, code[:at]))]++
		if i%100 == 0 {
			asWorked(t, anyText(r, anyRules(r, 30)))
			asWorked(t, anyText(r, "n:"+anyAlternatives(r, 9)+strings.Repeat("(q|n)*", r.Intn(90))+";"))
		}
	}
	if told[api.OK] < 1000 || told[api.ErrForm] < 1000 || told[api.ErrTwice] < 300 || told[api.ErrName] < 300 {
		t.Errorf("%v: too few to show anything", told)
	}
}

// P6.3: brackets around all that a rule stands for, and around each Name and Quote within one, change nothing.
func TestBracketsChangeNothing(t *testing.T) {
	alike(t, "s: 'a';", "s: ('a');", "s: (('a'));", "s : ( ( ( 'a' ) ) ) ;")
	alike(t, "s: s;", "s: (s);", "s: ((s));")
	alike(t, "s: ;", "s: ();", "s: (());", "s: ( ( () ) );")
	alike(t, "s: | ;", "s: (|);", "s: (()|);", "s: ((|()));")
	alike(t, "s: 'a'*;", "s: ('a')*;", "s: ('a'*);", "s: (('a')*);", "s: (((('a')))*);")
	alike(t, "s: 'a' s | 'b'+;", "s: ('a' s | 'b'+);", "s: ('a') (s) | ('b')+;", "s: (('a' s) | ('b'+));", "s: ((('a') (s) | (('b'))+));")
	alike(t, exampleText, "s: ('a' s |);", "s: ('a') (s) | ;", "s: ('a' s) | ();")
	r := rand.New(rand.NewSource(63))
	for range 3000 {
		text := anyText(r, anyRules(r, 3))
		want, _, e := rules.Read(text)
		if e != api.OK {
			t.Fatalf("Read(%q): %d", text, e)
		}
		for range 4 {
			tells(t, moreBrackets(r, text, 1+r.Intn(3)), want)
		}
		if t.Failed() {
			return
		}
	}
}

// moreBrackets puts brackets, some deep, around what rules stand for, or around Names and Quotes within them, at most or at all.
func moreBrackets(r *rand.Rand, text string, deep int) string {
	tokens, _, _ := scan.Scan(text)
	open, shut := strings.Repeat("( ", deep), strings.Repeat(") ", deep)
	bodies, most := r.Intn(2) == 0, r.Intn(3)
	var b strings.Builder
	for i, k := range tokens {
		head := i+1 < len(tokens) && tokens[i+1].Kind == scan.Mark && tokens[i+1].Text == ":"
		spelt := k.Text + " "
		if k.Kind == scan.Quote {
			spelt = "'" + k.Text + "' "
		}
		switch {
		case k.Kind != scan.Mark && !head && most > 0 && r.Intn(most) == 0:
			b.WriteString(open + spelt + shut)
		case k.Kind == scan.Mark && k.Text == ":" && bodies:
			b.WriteString(spelt + open)
		case k.Kind == scan.Mark && k.Text == ";" && bodies:
			b.WriteString(shut + spelt)
		default:
			b.WriteString(spelt)
		}
	}
	return b.String()
}

// written is a text in which brackets are around each node but a rule's body and what has none to have: none, if the nodes' numbers lead nowhere, or ever on.
func written(x rules.Tree) (string, bool) {
	var b strings.Builder
	var put func(n, deep int) bool
	put = func(n, deep int) bool {
		if n < 0 || n >= len(x.Nodes) || deep > len(x.Nodes) || b.Len() > api.MostText {
			return false
		}
		node := x.Nodes[n]
		if node.Kind < 1 || node.Kind > 7 {
			return false
		}
		if node.Kind >= 6 {
			b.WriteString([]string{node.Name + " ", "'" + node.Name + "' "}[node.Kind-6])
			return true
		}
		b.WriteString("( ")
		for i, k := range node.Kids {
			if i > 0 && node.Kind == 2 {
				b.WriteString("| ")
			}
			if !put(k, deep+1) {
				return false
			}
		}
		b.WriteString([]string{") ", ") ", ") * ", ") + ", ") ? "}[node.Kind-1])
		return true
	}
	for _, r := range x.Rules {
		b.WriteString(r.Name + " : ")
		if !put(r.Body, 0) {
			return "", false
		}
		b.WriteString(";\n")
	}
	return b.String(), true
}

// someText stands for a tree, if any does, where it isn't too long: so a tree may be just if it is read from what is written of it.
func someText(t *testing.T, x rules.Tree) bool {
	text, ok := written(x)
	if !ok {
		return false
	}
	back, _, e := worked(text)
	return e == api.OK && flat(back) == flat(x)
}

// changed is a tree with something changed, whatever becomes of it.
func changed(r *rand.Rand, x rules.Tree) rules.Tree {
	y := copied(x)
	i, j := r.Intn(len(y.Nodes)), r.Intn(len(y.Nodes))
	n, k := &y.Nodes[i], r.Intn(len(y.Rules))
	switch r.Intn(13) {
	case 0:
		n.Kind = r.Intn(9)
	case 1:
		n.Name = []string{"", "s", "s_00", "a b", "a'b", "' '", "a;b:"}[r.Intn(7)]
	case 2:
		n.Kids = append(n.Kids, r.Intn(len(y.Nodes)+1)-1)
	case 3:
		if len(n.Kids) > 0 {
			n.Kids = n.Kids[:len(n.Kids)-1]
		}
	case 4:
		if len(n.Kids) > 0 {
			n.Kids[r.Intn(len(n.Kids))] = r.Intn(len(y.Nodes)+2) - 1
		}
	case 5:
		slices.Reverse(n.Kids)
	case 6:
		y.Nodes[i], y.Nodes[j] = y.Nodes[j], y.Nodes[i]
	case 7:
		y.Nodes = append(y.Nodes, y.Nodes[i])
	case 8:
		y.Nodes = slices.Delete(y.Nodes, i, i+1)
	case 9:
		y.Rules[k].Body = r.Intn(len(y.Nodes)+2) - 1
	case 10:
		y.Rules[k].Name = []string{"", "s", "s_00", "T_01", "9", "a b", "'a'"}[r.Intn(7)]
	case 11:
		y.Rules = slices.Delete(y.Rules, k, k+1)
	case 12:
		swapNumbers(&y, i, j)
	}
	return y
}

// swapNumbers lets two nodes change places, and all that leads to them with them.
func swapNumbers(x *rules.Tree, i, j int) {
	other := func(n int) int {
		switch n {
		case i:
			return j
		case j:
			return i
		}
		return n
	}
	x.Nodes[i], x.Nodes[j] = x.Nodes[j], x.Nodes[i]
	for _, n := range x.Nodes {
		for k := range n.Kids {
			n.Kids[k] = other(n.Kids[k])
		}
	}
	for k := range x.Rules {
		x.Rules[k].Body = other(x.Rules[k].Body)
	}
}

// P6.2: a tree may be just if some text stands for it: any trees that were read, and then changed.
func TestRightAny(t *testing.T) {
	r := rand.New(rand.NewSource(64))
	told := map[bool]int{}
	for range 4000 {
		x, _, e := rules.Read(anyText(r, anyRules(r, 3)))
		if e != api.OK || !someText(t, x) {
			t.Fatalf("%s: %d", flat(x), e)
		}
		for range 1 + r.Intn(3) {
			y := changed(r, x)
			want := someText(t, y)
			told[want]++
			right(t, y, want)
			same(t, x, y, flat(x) == flat(y))
			if t.Failed() || len(y.Rules) == 0 || len(y.Nodes) == 0 {
				break
			}
			x = y
		}
		if t.Failed() {
			return
		}
	}
	if told[true] < 300 || told[false] < 1000 {
		t.Errorf("%v: too few to show anything", told)
	}
}

// P6.2: all trees of one rule and a few nodes, of some kinds, with all lists of Kids there are.
func TestRightAllSmall(t *testing.T) {
	told := map[bool]int{}
	for most := 1; most <= 3; most++ {
		var lists [][]int // all of at most two numbers, from -1 on to one that is no node
		lists = append(lists, nil)
		for a := -1; a <= most; a++ {
			lists = append(lists, []int{a})
			for b := -1; b <= most; b++ {
				lists = append(lists, []int{a, b})
			}
		}
		var all func(l []rules.Node)
		all = func(l []rules.Node) {
			if len(l) == most {
				for body := -1; body <= most; body++ {
					x := tree(l, rule("s", body))
					is := rules.Right(x)
					told[is]++
					if is != someText(t, x) {
						t.Fatalf("Right of %s is %t", flat(x), is)
					}
				}
				return
			}
			all(append(slices.Clone(l), term("a")))
			for _, kind := range []int{rules.Seq, rules.Star} {
				for _, kids := range lists {
					all(append(slices.Clone(l), rules.Node{Kind: kind, Kids: kids}))
				}
			}
		}
		all(nil)
	}
	if told[true] < 10 || told[false] < 1000 {
		t.Errorf("%v: too few to show anything", told)
	}
}
