package scan_test

import (
	"math/rand"
	"regexp"
	"slices"
	"strings"
	"testing"

	"probate/api"
	"probate/scan"
)

// marks are all of them.
const marks = ":;|()*+?"

// name, quote and mark are tokens.
func name(text string, at int) scan.Token  { return scan.Token{Kind: 1, Text: text, At: at} }
func quote(text string, at int) scan.Token { return scan.Token{Kind: 2, Text: text, At: at} }
func mark(text string, at int) scan.Token  { return scan.Token{Kind: 3, Text: text, At: at} }

// tokens is a list of them, or none.
func tokens(l ...scan.Token) []scan.Token { return l }

// tells holds Scan of a text against its tokens.
func tells(t *testing.T, text string, want ...scan.Token) {
	t.Helper()
	if got, at, e := scan.Scan(text); !slices.Equal(got, want) || at != 0 || e != api.OK {
		t.Errorf("Scan(%q): %v, %d, %d, not %v", text, got, at, e, want)
	}
}

// fails holds Scan of a text against ErrForm at a place, beside which there are no tokens (R2).
func fails(t *testing.T, text string, place int) {
	t.Helper()
	if got, at, e := scan.Scan(text); got != nil || at != place || e != api.ErrForm {
		t.Errorf("Scan(%q): %v, %d, %d, not ErrForm at %d", text, got, at, e, place)
	}
}

// tooBig holds Scan of a text against ErrBig, beside which there is nothing (R2).
func tooBig(t *testing.T, text string) {
	t.Helper()
	if got, at, e := scan.Scan(text); got != nil || at != 0 || e != api.ErrBig {
		t.Errorf("Scan of %d bytes: %d tokens, %d, %d, not ErrBig", len(text), len(got), at, e)
	}
}

// forms are what a text is made of, as the chapter's words say it, with the kind of each (0: no token).
type form struct {
	kind int
	is   *regexp.Regexp
}

var forms = []form{
	{1, regexp.MustCompile(`^[A-Za-z][A-Za-z0-9_]*`)},
	{2, regexp.MustCompile(`^'[\x20-\x26\x28-\x7e]+'`)},
	{3, regexp.MustCompile(`^[:;|()*+?]`)},
	{0, regexp.MustCompile(`^[ \t\n\r]`)},
	{0, regexp.MustCompile(`^#[^\n]*`)},
}

// worked works Scan's answer out by those forms.
func worked(text string) ([]scan.Token, int, api.Errno) {
	if len(text) > api.MostText {
		return nil, 0, api.ErrBig
	}
	var l []scan.Token
going:
	for at := 0; at < len(text); {
		for _, f := range forms {
			if whole := f.is.FindString(text[at:]); whole != "" {
				if f.kind != 0 {
					l = append(l, scan.Token{Kind: f.kind, Text: strings.Trim(whole, "'"), At: at})
				}
				at += len(whole)
				continue going
			}
		}
		return nil, at, api.ErrForm
	}
	return l, 0, api.OK
}

// asWorked holds Scan of a text against that, and tells the error.
func asWorked(t *testing.T, text string) api.Errno {
	t.Helper()
	got, at, e := scan.Scan(text)
	if want, place, f := worked(text); !slices.Equal(got, want) || at != place || e != f {
		t.Fatalf("Scan(%q): %v, %d, %d, not %v, %d, %d", text, got, at, e, want, place, f)
	}
	if e != api.OK && got != nil {
		t.Fatalf("Scan(%q): %v beside %d", text, got, e)
	}
	return e
}

// P5.1: the kinds' numbers, and each kind of token alone.
func TestKinds(t *testing.T) {
	if scan.Name != 1 || scan.Quote != 2 || scan.Mark != 3 {
		t.Errorf("%d, %d, %d", scan.Name, scan.Quote, scan.Mark)
	}
	tells(t, "s", scan.Token{Kind: scan.Name, Text: "s"})
	tells(t, "'s'", scan.Token{Kind: scan.Quote, Text: "s"})
	tells(t, ":", scan.Token{Kind: scan.Mark, Text: ":"})
}

// P5.1: the chapter's example, and a text of no bytes.
func TestExample(t *testing.T) {
	tells(t, "s: 'a' s | ;", name("s", 0), mark(":", 1), quote("a", 3), name("s", 7), mark("|", 9), mark(";", 11))
	tells(t, "")
}

func isLetter(c byte) bool { return 'A' <= c && c <= 'Z' || 'a' <= c && c <= 'z' }
func isBlank(c byte) bool  { return c == 32 || c == 9 || c == 10 || c == 13 }
func inName(c byte) bool   { return isLetter(c) || '0' <= c && c <= '9' || c == '_' }
func isMark(c byte) bool   { return strings.IndexByte(marks, c) >= 0 }

// P5.1: each byte alone, at the beginning of a text and behind a token of each kind.
func TestEachByte(t *testing.T) {
	for _, ahead := range [][]scan.Token{
		nil,
		{name("x", 0)},
		{name("x_9", 0)},
		{quote("x", 0)},
		{quote("#", 0)},
		{mark(":", 0)},
		{mark("?", 0)},
	} {
		text := ""
		if len(ahead) > 0 {
			text = spelled(ahead[0])
		}
		for i := range 256 {
			c := byte(i)
			whole, at := text+string([]byte{c}), len(text)
			switch {
			case len(ahead) > 0 && ahead[0].Kind == scan.Name && inName(c):
				tells(t, whole, name(whole, 0))
			case isLetter(c):
				tells(t, whole, append(slices.Clone(ahead), name(string([]byte{c}), at))...)
			case isMark(c):
				tells(t, whole, append(slices.Clone(ahead), mark(string([]byte{c}), at))...)
			case isBlank(c) || c == '#':
				tells(t, whole, ahead...)
			default:
				fails(t, whole, at)
			}
			if len(ahead) == 0 && !isLetter(c) && !isMark(c) && !isBlank(c) && c != '#' {
				fails(t, whole+"x", 0)
				fails(t, " "+whole, 1)
			}
		}
	}
}

// P5.1: of two bytes, all pairs of them, and all ahead of a token.
func TestEachPair(t *testing.T) {
	for i := range 256 {
		for j := range 256 {
			pair := string([]byte{byte(i), byte(j)})
			asWorked(t, pair)
			asWorked(t, pair+"x")
			asWorked(t, "'"+pair+"'")
			asWorked(t, "x"+pair)
			asWorked(t, "#"+pair+" x")
		}
	}
}

// P5.1: a Name at each end of what its bytes may be, and the bytes beside these.
func TestNames(t *testing.T) {
	for _, c := range []string{
		"A", "Z", "a", "z", "M", "m",
		"A0", "Z9", "a_", "z_", "aA", "aZ", "Aa", "Az", "a0", "a9", "a5",
		"a__", "a_0", "a0_9", "abc", "ABC", "AZaz09_", "Quote", "x123456789", "a" + strings.Repeat("_", 100),
	} {
		tells(t, c, name(c, 0))
		tells(t, " "+c+" ", name(c, 1))
		tells(t, c+" "+c, name(c, 0), name(c, len(c)+1))
	}
	for _, c := range []string{"@", "[", "`", "{", "/", "^", "0", "1", "9", "_", "-", ".", "$", "\\", "\x00", "\x7f", "\x80", "\xc3\xa9"} {
		fails(t, c, 0)
		fails(t, c+"a", 0)
		fails(t, " "+c, 1)
		fails(t, "b "+c, 2)
		if !inName(c[0]) {
			fails(t, "b"+c, 1)
			fails(t, "b"+c+"a", 1)
		}
	}
	tells(t, "b:", name("b", 0), mark(":", 1)) // 9 stands beside :
}

// P5.1: a digit, or _, with which no token begins, wherever it stands.
func TestNoNameBegins(t *testing.T) {
	for _, c := range "0123456789_" {
		fails(t, string(c), 0)
		fails(t, string(c)+"a", 0)
		fails(t, "a "+string(c), 2)
		fails(t, "'a'"+string(c), 3)
		fails(t, ":"+string(c)+"a", 1)
		fails(t, "a\n"+string(c), 2)
		fails(t, "#\n"+string(c), 2)
		tells(t, "a"+string(c)+string(c), name("a"+string(c)+string(c), 0))
	}
}

// P5.1: each mark, two side by side, and all of them.
func TestMarks(t *testing.T) {
	var all []scan.Token
	for i, a := range marks {
		all = append(all, mark(string(a), i))
		tells(t, string(a), mark(string(a), 0))
		tells(t, "x"+string(a)+"y", name("x", 0), mark(string(a), 1), name("y", 2))
		for _, b := range marks {
			tells(t, string(a)+string(b), mark(string(a), 0), mark(string(b), 1))
			tells(t, string(a)+" "+string(b), mark(string(a), 0), mark(string(b), 2))
		}
	}
	tells(t, marks, all...)
}

// inside are all bytes that may stand in a Quote.
func inside() string {
	var b []byte
	for c := 32; c <= 126; c++ {
		if c != '\'' {
			b = append(b, byte(c))
		}
	}
	return string(b)
}

// P5.1: Quotes of one byte and of many, of each byte that may stand there.
func TestQuotes(t *testing.T) {
	for _, c := range inside() {
		for _, s := range []string{string(c), "a" + string(c), string(c) + "a", string(c) + string(c), "a" + string(c) + "b"} {
			tells(t, "'"+s+"'", quote(s, 0))
			tells(t, ":'"+s+"'x", mark(":", 0), quote(s, 1), name("x", len(s)+3))
		}
	}
	for _, s := range []string{inside(), "if", "a b", " ", "   ", "#", "# no remark", ":;|()*+?", "()", "\"", "\\", "\\n", "0", "9_", "~", " ~"} {
		tells(t, "'"+s+"'", quote(s, 0))
		tells(t, " '"+s+"' ", quote(s, 1))
	}
}

// P5.1: each byte that may not stand in a Quote, wherever it stands there: the ' is wrong, not the byte.
func TestNoQuotes(t *testing.T) {
	for i := range 256 {
		if 32 <= i && i <= 126 {
			continue
		}
		c := string([]byte{byte(i)})
		for _, s := range []string{c, c + "a", "a" + c, "a" + c + "b", c + c} {
			fails(t, "'"+s+"'", 0)
			fails(t, "'"+s, 0)
			fails(t, "x:'"+s+"';", 2)
		}
	}
	for _, text := range []string{"'", "''", "'''", "''''", "'a", "'ab", "' ", "'#", "'a b ;", "'a\n'", "'a\r'", "'a\t'", "'\x7f'", "'\x80'", "'\x1f'", "'a\n'b'", "''a'", "'' 'a'"} {
		fails(t, text, 0)
		fails(t, " "+text, 1)
		fails(t, "x"+text, 1)
		fails(t, "s: "+text, 3)
		fails(t, "'b'"+text, 3)
	}
	fails(t, "'"+strings.Repeat("a", 1000), 0)
}

// P5.1: two ' side by side behind a Quote that is ended: the second one begins another, or nothing.
func TestQuotesSideBySide(t *testing.T) {
	tells(t, "'a''b'", quote("a", 0), quote("b", 3))
	tells(t, "'a''b''c'", quote("a", 0), quote("b", 3), quote("c", 6))
	tells(t, "'a'' '", quote("a", 0), quote(" ", 3))
	fails(t, "'a''", 3)
	fails(t, "'a'''", 3)
	fails(t, "'a''''", 3)
	fails(t, "'a''b", 3)
	fails(t, "'a''b''", 6)
	fails(t, "'a' ''", 4)
	fails(t, "'a'b'", 4)
	fails(t, "'a''\n'", 3)
}

// P5.1: what may stand between tokens, and tokens with nothing between.
func TestBetween(t *testing.T) {
	for _, c := range []string{" ", "\t", "\n", "\r", "\r\n", "\n\r", "  ", " \t\n\r", "\r\r", "\n\n\n", "\t\t ", strings.Repeat(" ", 500)} {
		k := len(c)
		tells(t, c)
		tells(t, c+"a", name("a", k))
		tells(t, "a"+c, name("a", 0))
		tells(t, "a"+c+"b", name("a", 0), name("b", k+1))
		tells(t, "'a'"+c+"'b'", quote("a", 0), quote("b", k+3))
		tells(t, "("+c+")", mark("(", 0), mark(")", k+1))
		fails(t, c+"9", k)
	}
	for _, c := range []string{"\v", "\f", "\x00", "\x08", "\x0e", "\x1f", "\x85", "\xa0", "\u00a0", "\u2028", "\ufeff", ",", ".", "/", "=", "\"", "-", "{", "}", "[", "]", "<", ">", "!", "&", "%", "$", "@", "~", "^", "`", "\\"} {
		fails(t, c, 0)
		fails(t, "a"+c+"b", 1)
		fails(t, "a "+c+" b", 2)
	}
	tells(t, "a:b;'c'd('e''f')*+?|g", name("a", 0), mark(":", 1), name("b", 2), mark(";", 3), quote("c", 4), name("d", 7), mark("(", 8),
		quote("e", 9), quote("f", 12), mark(")", 15), mark("*", 16), mark("+", 17), mark("?", 18), mark("|", 19), name("g", 20))
}

// P5.1: remarks at the beginning, between tokens and at the end; one ends at 10, but not at 13, and is nothing else.
func TestRemarks(t *testing.T) {
	for _, r := range []string{"#", "##", "# ", "# a", "#a:'b';", "# it's", "#'", "# \x00\x01\x7f\x80\xff \xc3\xa9", "# 9 _ @ , . \" \\", "#\r", "# a\rb", "#\r9", "#\t#\v\f", "#'a'", "#" + strings.Repeat("x ", 300)} {
		k := len(r)
		tells(t, r)
		tells(t, r+"\n")
		tells(t, r+"\n\n"+r)
		tells(t, r+"\na", name("a", k+1))
		tells(t, "a"+r, name("a", 0))
		tells(t, "a "+r, name("a", 0))
		tells(t, "a"+r+"\n", name("a", 0))
		tells(t, "a"+r+"\nb", name("a", 0), name("b", k+2))
		tells(t, "a "+r+"\n \t"+r+"\n b", name("a", 0), name("b", 2*k+7))
		tells(t, "'a'"+r+"\n'b'", quote("a", 0), quote("b", k+4))
		tells(t, "("+r+"\n)", mark("(", 0), mark(")", k+2))
		tells(t, "a"+r+"\rb", name("a", 0))
		tells(t, "a"+r+" b : 'c' ;", name("a", 0))
		fails(t, r+"\n9", k+1)
		fails(t, "9"+r, 0)
		if !strings.Contains(r, "'") {
			fails(t, "'"+r+"\n'", 0)
		}
	}
	tells(t, "a#b\r\nc", name("a", 0), name("c", 5))
	tells(t, "'#'a#'", quote("#", 0), name("a", 3))
	tells(t, "'a # b' c", quote("a # b", 0), name("c", 8))
}

// P5.1: At of each token, behind blanks, remarks, Quotes and each other.
func TestPlaces(t *testing.T) {
	text := "# first\r\n list : 'a # b'list#'\n\t|\r'::' (x_1 'y')* ; # last '"
	want := tokens(name("list", 10), mark(":", 15), quote("a # b", 17), name("list", 24), mark("|", 32), quote("::", 34),
		mark("(", 39), name("x_1", 40), quote("y", 44), mark(")", 47), mark("*", 48), mark(";", 50))
	tells(t, text, want...)
	for _, k := range want {
		if !strings.HasPrefix(text[k.At:], spelled(k)) {
			t.Errorf("%v isn't there", k)
		}
	}
}

// P5.1, R2: where several bytes are wrong, the first one's place is told, whatever it is.
func TestFirstWrong(t *testing.T) {
	for _, c := range []struct {
		text string
		at   int
	}{
		{"99", 0},
		{"9@", 0},
		{"@9", 0},
		{"'9@", 0},
		{"@'", 0},
		{"a @ 9", 2},
		{"a ' @", 2},
		{"a @ '", 2},
		{"a 'b' ' 'c' @", 10}, // the ' behind b's begins the Quote of a space
		{"a '' @", 2},
		{"'a\n' @ 9", 0},
		{"s: 'a' _ 'b", 7},
		{"s: 'a' 'b _", 7},
		{"# @\n@ 9", 4},
		{"a9 9a", 3},
		{"\x00\x80", 0},
		{" \x80\x00", 1},
		{"a\x80'", 1},
		{"s : t @ ; u : @ ;", 6},
	} {
		fails(t, c.text, c.at)
	}
}

// P5.1, R2: texts of just as many bytes as may be, and of one more, whatever stands there.
func TestMost(t *testing.T) {
	const most = api.MostText
	tells(t, strings.Repeat("a", most), name(strings.Repeat("a", most), 0))
	tells(t, "'"+strings.Repeat("b", most-2)+"'", quote(strings.Repeat("b", most-2), 0))
	tells(t, strings.Repeat(" ", most))
	tells(t, "#"+strings.Repeat("\xff", most-1))
	tells(t, strings.Repeat("\n", most-1)+";", mark(";", most-1))
	fails(t, strings.Repeat("a", most-1)+"@", most-1)
	fails(t, strings.Repeat("a", most-1)+"'", most-1)
	fails(t, "'"+strings.Repeat("a", most-1), 0)
	var all []scan.Token
	for i := range most {
		all = append(all, mark("|", i))
	}
	tells(t, strings.Repeat("|", most), all...)
	for _, more := range []int{1, 2, 1000, 1 << 20} {
		for _, c := range []string{"a", " ", "|", "#", "'", "9", "@", "\x00", "\xff", "\n"} {
			tooBig(t, strings.Repeat(c, most+more))
		}
		tooBig(t, "@"+strings.Repeat(" ", most+more-1))
		tooBig(t, strings.Repeat(" ", most+more-1)+"@")
		tooBig(t, "'"+strings.Repeat("b", most+more-2)+"'")
		tooBig(t, "''"+strings.Repeat("a", most+more-2))
	}
}

// parts are what texts are made of, right ones and wrong ones.
var parts = []string{
	"a", "Z", "s", "x_1", "B9", "list", "'a'", "'b c'", "'#'", "'~'", "' '", ":", ";", "|", "(", ")", "*", "+", "?",
	" ", "\t", "\n", "\r", "\r\n", "#", "# it's\n", "#9\r\n", "  ",
}
var wrongParts = []string{"'", "''", "9", "_", "@", "\x00", "\x1f", "\x7f", "\x80", "\xff", "\xc3\xa9", ",", "\v"}

// anyText is a text of some parts, of which few or none are wrong.
func anyText(r *rand.Rand) string {
	var b strings.Builder
	wrong := r.Intn(2) == 0
	for range r.Intn(30) {
		if wrong && r.Intn(20) == 0 {
			b.WriteString(wrongParts[r.Intn(len(wrongParts))])
		} else {
			b.WriteString(parts[r.Intn(len(parts))])
		}
	}
	return b.String()
}

// P5.1: texts of whatever parts, and of whatever bytes, against the chapter's words.
func TestAny(t *testing.T) {
	r := rand.New(rand.NewSource(51))
	told := map[api.Errno]int{}
	for range 40000 {
		told[asWorked(t, anyText(r))]++
	}
	if told[api.OK] < 1000 || told[api.ErrForm] < 1000 {
		t.Errorf("%v: too few to show anything", told)
	}
	const bytes = "aZ09_ '\n\r\t#:;|()*+?@\x00\x7f\x80~"
	for range 40000 {
		b := make([]byte, r.Intn(12))
		for i := range b {
			b[i] = bytes[r.Intn(len(bytes))]
		}
		asWorked(t, string(b))
	}
}

// spelled is a token as it stands in a text.
func spelled(k scan.Token) string {
	if k.Kind == scan.Quote {
		return "'" + k.Text + "'"
	}
	return k.Text
}

// anyTokens are tokens at no places.
func anyTokens(r *rand.Rand) []scan.Token {
	const first, behind = "abcxyzABCXYZ", "abcxyzABCXYZ0129_"
	from := func(all string, n int) string {
		b := make([]byte, n)
		for i := range b {
			b[i] = all[r.Intn(len(all))]
		}
		return string(b)
	}
	var l []scan.Token
	for range r.Intn(20) {
		switch r.Intn(3) {
		case 0:
			l = append(l, name(from(first, 1)+from(behind, r.Intn(5)), 0))
		case 1:
			l = append(l, quote(from(inside(), 1+r.Intn(6)), 0))
		default:
			l = append(l, mark(from(marks, 1), 0))
		}
	}
	return l
}

// gaps are what parts tokens, whatever stands behind.
var gaps = []string{" ", "\t", "\n", "\r", "\r\n", "  ", "#\n", " # a 'b' 9\n", "\n#\r\n", "# it's\n\t", "#\xff\x00@\n"}

// laid is a text of tokens, with what gap tells ahead of each, and these tokens with their places.
func laid(l []scan.Token, gap func(i int) string) (string, []scan.Token) {
	var b strings.Builder
	var placed []scan.Token
	for i, k := range l {
		b.WriteString(gap(i))
		k.At = b.Len()
		placed = append(placed, k)
		b.WriteString(spelled(k))
	}
	return b.String(), placed
}

// P5.2: tokens, parted by a space each, are tokens of the same kinds and texts, and what else parts them changes only places.
func TestParted(t *testing.T) {
	r := rand.New(rand.NewSource(52))
	for range 10000 {
		l := anyTokens(r)
		text, want := laid(l, func(i int) string {
			if i == 0 {
				return ""
			}
			return " "
		})
		tells(t, text, want...)
		text, want = laid(l, func(int) string { return gaps[r.Intn(len(gaps))] })
		tells(t, text, want...)
		text, want = laid(l, func(i int) string { // nothing parts tokens but of two Names the second from the first
			if i > 0 && l[i-1].Kind == scan.Name && l[i].Kind == scan.Name {
				return gaps[r.Intn(len(gaps))]
			}
			return ""
		})
		tells(t, text, want...)
		tells(t, text+"#", want...)
		if t.Failed() {
			return
		}
	}
}

// P5.2: the tokens of a text, parted by a space each, are told again.
func TestToldAgain(t *testing.T) {
	r := rand.New(rand.NewSource(53))
	for range 10000 {
		l, _, e := scan.Scan(anyText(r))
		if e != api.OK {
			continue
		}
		text, want := laid(l, func(int) string { return " " })
		tells(t, text, want...)
		if t.Failed() {
			return
		}
	}
}

// opened tells whether a text ends within a remark: then a wrong byte behind it is part of that.
func opened(text string) bool {
	_, _, e := scan.Scan(text + "@")
	return e == api.OK
}

// P5.2: two texts, parted by a space, a line end or a remark, are the tokens of the one and of the other; the first thing that is wrong stays where it is.
func TestTwoTexts(t *testing.T) {
	r := rand.New(rand.NewSource(54))
	both, first, second := 0, 0, 0
	for range 20000 {
		a, b := anyText(r), anyText(r)
		la, pa, ea := scan.Scan(a)
		lb, pb, eb := scan.Scan(b)
		for _, gap := range []string{" ", "\t", "\n", "\r\n", "#\n", " # c 'd' @\r\n"} {
			if opened(a) && !strings.Contains(gap, "\n") {
				continue // the other text stands in the remark
			}
			if ea != api.OK && a[pa] == '\'' && gap[0] == ' ' {
				continue // what stands behind may end a Quote there
			}
			text, behind := a+gap+b, len(a)+len(gap)
			switch {
			case ea != api.OK:
				fails(t, text, pa)
				first++
			case eb != api.OK:
				fails(t, text, behind+pb)
				second++
			default:
				want := slices.Clone(la)
				for _, k := range lb {
					k.At += behind
					want = append(want, k)
				}
				tells(t, text, want...)
				both++
			}
		}
		if t.Failed() {
			return
		}
	}
	if both < 1000 || first < 1000 || second < 1000 {
		t.Errorf("%d, %d, %d: too few to show anything", both, first, second)
	}
}

// P5.2: two texts by hand.
func TestTwoTextsByHand(t *testing.T) {
	for _, gap := range []string{" ", "\n", "\r", "\t", "# and\n"} {
		k := len(gap)
		tells(t, "s:'a'"+gap+"t;", name("s", 0), mark(":", 1), quote("a", 2), name("t", 5+k), mark(";", 6+k))
		fails(t, "s:'a'"+gap+"t;9", 7+k)
		fails(t, "s:9"+gap+"t;@", 2)
		fails(t, "s:''"+gap+"t;@", 2)
		fails(t, "s"+gap+"'t", 1+k)
	}
	tells(t, "s # t\nu", name("s", 0), name("u", 6))
	fails(t, "'s\n'", 0)
	tells(t, "'s '", quote("s ", 0))
}

// R3, R4, R5: an answer may be changed, and the next call tells the same.
func TestNothingIsKept(t *testing.T) {
	text := strings.Clone("s: 'a' s | ; # b")
	want := tokens(name("s", 0), mark(":", 1), quote("a", 3), name("s", 7), mark("|", 9), mark(";", 11))
	for range 3 {
		got, at, e := scan.Scan(text)
		if !slices.Equal(got, want) || at != 0 || e != api.OK || text != "s: 'a' s | ; # b" {
			t.Fatalf("%v, %d, %d of %q", got, at, e, text)
		}
		fails(t, "a @", 2)
		tooBig(t, strings.Repeat("a", api.MostText+1))
		for i := range got {
			got[i] = quote("changed", 99)
		}
		_ = append(got, mark("(", 1))
	}
}
