package parse

import (
	"fmt"
	"reflect"
	"regexp"
	"slices"
	"strings"
	"testing"

	"cooperage/api"
	"cooperage/lex"
	"cooperage/text"
)

// lines cuts a text, and numbers what it is cut into: nothing is left out or trimmed.
func lines(s string) []lex.Line {
	var l []lex.Line
	for i, x := range text.Lines(s) {
		rest, tab := strings.CutPrefix(x, "\t")
		l = append(l, lex.Line{No: i + 1, Tab: tab, Text: rest})
	}
	return l
}

// same holds lists of nothing for one, nil or not.
func same(a, b []Node) bool {
	return slices.EqualFunc(a, b, func(x, y Node) bool {
		ok := slices.Equal(x.Recipe, y.Recipe)
		x.Recipe, y.Recipe = nil, nil
		return ok && reflect.DeepEqual(x, y)
	})
}

// is holds what Parse tells of lines that are right against what it must be.
func is(t *testing.T, s string, want ...Node) {
	t.Helper()
	areNodes(t, lines(s), want...)
}

func areNodes(t *testing.T, l []lex.Line, want ...Node) {
	t.Helper()
	if got, e, no := Parse(l); !same(got, want) || e != api.OK || no != 0 {
		t.Errorf("Parse(%s) = %s, %d, %d, want %s", short(l), short(got), int(e), no, short(want))
	}
}

// isWrong is is for lines that are wrong.
func isWrong(t *testing.T, s string, want api.Errno, no int) {
	t.Helper()
	areWrong(t, lines(s), want, no)
}

func areWrong(t *testing.T, l []lex.Line, want api.Errno, wantNo int) {
	t.Helper()
	if got, e, no := Parse(l); len(got) != 0 || e != want || no != wantNo {
		t.Errorf("Parse(%s) = %s, %d, %d, want %d, %d", short(l), short(got), int(e), no, int(want), wantNo)
	}
}

func short(l any) string {
	s := fmt.Sprintf("%+v", l)
	if len(s) > 400 {
		return s[:200] + " .. " + s[len(s)-200:]
	}
	return s
}

func assign(no int, name, op, s string) Node {
	return Node{Kind: Assign, No: no, Op: op, Name: name, Text: s}
}

func rules(no int, targets, pattern, inputs, order string, recipe ...string) Node {
	return Node{Kind: Rule, No: no, Targets: targets, Pattern: pattern, Inputs: inputs, Order: order, Recipe: recipe}
}

func ifs(no int, op, name, s string) Node { return Node{Kind: If, No: no, Op: op, Name: name, Text: s} }

func elses(no int) Node { return Node{Kind: Else, No: no} }

func ends(no int) Node { return Node{Kind: End, No: no} }

func includes(no int, op, s string) Node { return Node{Kind: Include, No: no, Op: op, Text: s} }

// texts tells all texts of at most size pieces of an alphabet.
func texts(size int, alphabet ...string) []string {
	all := []string{""}
	start := 0
	for range size {
		end := len(all)
		for _, s := range all[start:end] {
			for _, piece := range alphabet {
				all = append(all, s+piece)
			}
		}
		start = end
	}
	return all
}

func TestExample(t *testing.T) {
	is(t, "a := $(x:y=z)\nt $(b): %.o : %.c | d\n\tcc",
		assign(1, "a", ":=", "$(x:y=z)"), rules(2, "t $(b)", "%.o", "%.c", "d", "cc"))
}

func TestKinds(t *testing.T) {
	if Assign != 1 || Rule != 2 || If != 3 || Else != 4 || End != 5 || Include != 6 {
		t.Error(Assign, Rule, If, Else, End, Include)
	}
}

// P1: Name

func TestName(t *testing.T) {
	for _, s := range []string{
		"a", "A", "z", "Z", "0", "9", "_", "-", ".", "..", "a.b-c_D9", "--", "ifeq", "else", "include", "-include",
		strings.Repeat("x", 39), strings.Repeat("x", 40), strings.Repeat("._-9", 10),
	} {
		if !Name(s) {
			t.Errorf("Name(%q) is false", s)
		}
	}
	for _, s := range []string{
		"", " ", " a", "a ", "a b", "a\t", "a\n", "\x00", "a/b", "a+b", "a:b", "a=b", "a%", "$(a)", "$a", "(a)", "a,b", "a|b", "a@",
		"é", "aé", "\xff", "a\x80", "\u212a", "\uff41",
		strings.Repeat("x", 41), strings.Repeat("é", 20), strings.Repeat("x", 1<<16),
	} {
		if Name(s) {
			t.Errorf("Name(%q) is true", s)
		}
	}
}

func TestNameOfEachByte(t *testing.T) {
	const may = "ABCDEFGHIJKLMNOPQRSTUVWXYZabcdefghijklmnopqrstuvwxyz0123456789_-."
	for i := range 256 {
		b := string([]byte{byte(i)})
		want := strings.Contains(may, b)
		for _, s := range []string{b, b + "a", "a" + b, "a" + b + "a", strings.Repeat("x", 39) + b} {
			if Name(s) != want {
				t.Errorf("Name(%q) is %v", s, !want)
			}
		}
		if s := strings.Repeat("x", 40) + b; Name(s) {
			t.Errorf("Name(%q) is true", s)
		}
	}
}

// P1: Cut

func isCut(t *testing.T, s string, signs []string, wantAhead, wantSign, wantBehind string) {
	t.Helper()
	ahead, sign, behind := Cut(s, signs)
	if ahead != wantAhead || sign != wantSign || behind != wantBehind {
		t.Errorf("Cut(%q, %q) = %q, %q, %q, want %q, %q, %q", s, signs, ahead, sign, behind, wantAhead, wantSign, wantBehind)
	}
}

func isWhole(t *testing.T, s string, signs ...string) {
	t.Helper()
	isCut(t, s, signs, s, "", "")
}

func TestCut(t *testing.T) {
	colon := []string{":"}
	isCut(t, ":", colon, "", ":", "")
	isCut(t, "a:b", colon, "a", ":", "b")
	isCut(t, ":b", colon, "", ":", "b")
	isCut(t, "a:", colon, "a", ":", "")
	isCut(t, "a:b:c", colon, "a", ":", "b:c")
	isCut(t, "::", colon, "", ":", ":")
	isCut(t, " a : b ", colon, " a ", ":", " b ")
	isCut(t, "a\n:\tb", colon, "a\n", ":", "\tb")
	isWhole(t, "", ":")
	isWhole(t, "a", ":")
	isWhole(t, " a b ", ":")
}

func TestCutWithNoSign(t *testing.T) {
	isWhole(t, "a:b")
	isWhole(t, "")
	isWhole(t, "a:b", "")
	isWhole(t, "", "")
	isWhole(t, "", "", "", ":")
	isWhole(t, "ab", "", "")
	isCut(t, "ab", []string{"", "b"}, "a", "b", "")
	isCut(t, "ab", []string{"b", ""}, "a", "b", "")
}

func TestCutWithManySigns(t *testing.T) {
	for _, c := range []struct {
		s     string
		signs []string
		at    int
		sign  string
	}{
		{"a:=b", []string{":", ":="}, 1, ":"},
		{"a:=b", []string{":=", ":"}, 1, ":="},
		{"a:b=c", []string{":=", "=", ":"}, 1, ":"},
		{"a:b=c", []string{"=", ":"}, 1, ":"}, // the first place goes ahead of the first sign
		{"a=b:c", []string{":", "="}, 1, "="},
		{"a::=b", []string{":=", ":"}, 1, ":"},
		{"a::=b", []string{":=", "="}, 2, ":="},
		{"a:", []string{":=", ":"}, 1, ":"},
		{"aab", []string{"ab"}, 1, "ab"},
		{"aaab", []string{"aab", "aa", "a"}, 0, "aa"},
		{"xyz", []string{"yz", "xyz", "x"}, 0, "xyz"},
		{"xyz", []string{"z", "yz"}, 1, "yz"},
		{"a b", []string{" "}, 1, " "},
		{"a\x00b", []string{"\x00"}, 1, "\x00"},
		{"a:b", []string{":", ":"}, 1, ":"},
		{"aé:b", []string{"é:", ":"}, 1, "é:"},
		{"a\xffb", []string{"\xff"}, 1, "\xff"},
		{"é", []string{"\xa9"}, 1, "\xa9"}, // a text is bytes
	} {
		isCut(t, c.s, c.signs, c.s[:c.at], c.sign, c.s[c.at+len(c.sign):])
	}
	isWhole(t, "a:", ":=")
	isWhole(t, "a: =", ":=")
	isWhole(t, "ab", "abc", "abcd", "B")
	isWhole(t, ":=", ":==")
}

func TestCutWithSignsOfOpenings(t *testing.T) {
	for _, c := range []struct {
		s, sign string
		at      int // -1: nowhere
	}{
		{")", ")", 0}, {"a)b", ")", 1}, {"$()", ")", -1}, {"$(a)b)c", ")", 5}, {"$(a))", ")", 4}, {"${a)})", ")", 5}, {"${)", ")", -1},
		{"}", "}", 0}, {"a}b", "}", 1}, {"${}", "}", -1}, {"${a}b}c", "}", 5}, {"$(a})}", "}", 5}, {"$(}", "}", -1},
		{"(", "(", 0}, {"a(b", "(", 1}, {"$(", "(", -1}, {"$((", "(", -1}, {"$(()(", "(", 4}, {"$ (", "(", 2}, {"$a(", "(", 2},
		{"{", "{", 0}, {"${", "{", -1}, {"${{}{", "{", 4}, {"({", "{", 1},
		{"$", "$", 0}, {"a$", "$", 1}, {"$(", "$", -1}, {"${", "$", -1}, {"$$", "$", 0}, {"$$(", "$", 0}, {"$()$", "$", 3}, {"$($", "$", -1}, {"$a", "$", 0}, {"$)", "$", 0},
		{"$($)$", "$", 4}, {"$$()$", "$", 0}, {"$()$()$", "$", 6},
		{"$(", "$(", -1}, {"a$(b)", "$(", -1}, {"$$(", "$$", 0}, {"$$(a)", "$$(", 0}, {"${a}", "${", -1}, {"$()", "()", -1}, {"$(a)$(", ")$", -1},
		{"a$(b)", "a$(b)", 0}, {"xa$(b)", "a$", 1}, {"$(a)b$(", "b$(", 4}, {"$()a)", "a)", 3}, {"$(a)", "a)", -1},
	} {
		if c.at < 0 {
			isWhole(t, c.s, c.sign)
			continue
		}
		isCut(t, c.s, []string{c.sign}, c.s[:c.at], c.sign, c.s[c.at+len(c.sign):])
	}
}

func TestCutOutside(t *testing.T) {
	for _, c := range []struct {
		s  string
		at int // of the `:`; -1: nowhere
	}{
		{"$(a:b)", -1}, {"${a:b}", -1}, {"$(a:b):c", 6}, {"${a:b}:c", 6}, {"a$(b)c:d", 6}, {"$(:)$(:):", 8}, {"$(:)${:}:", 8}, {"$():", 3}, {"${}:", 3},
		// one in the other
		{"$($(a:b):c):d", 11}, {"$(${a:b}:c):d", 11}, {"${$(a:b):c}:d", 11}, {"${${a:b}:c}:d", 11}, {"$($(${:})::):", 12}, {"$($($(a))):", 10}, {"$($(a)):)", 7}, {"$($(a):)", -1},
		// the other one's sign
		{"$(a}:", -1}, {"$(a}:)", -1}, {"$(a}:):", 6}, {"${a):", -1}, {"${a):}", -1}, {"${a):}:", 6}, {"${a:)}b:c", 7}, {"$(}}):", 5}, {"${))}:", 5},
		{"$(${)}):", 7}, {"${$(}):}", -1}, {"${$(})}:", 7}, {"$(${a)b}):", 9},
		// never closed
		{"$(", -1}, {"${", -1}, {"$(:", -1}, {"${:", -1}, {"$(a:b", -1}, {"a:$(b", 1}, {"$($(a):", -1}, {"$(${a):", -1}, {"${$(a}:", -1}, {"$(a)$(b:", -1}, {"$(${):)", -1}, {"${$(}:}", -1},
		// what means nothing
		{"):", 1}, {"}:", 1}, {"(a:b)", 2}, {"{a:b}", 2}, {"$(a(:b):c", 7}, {"$((:)):", 6}, {"${{:}}:", 6}, {"()):", 3}, {"$()):", 4}, {"${}}:", 4}, {"$(){:}", 4},
		// `$` that opens nothing
		{"$:", 1}, {"$", -1}, {"$$", -1}, {":$", 0}, {"$$:", 2}, {"$$(:)", -1}, {"$$(:):", 5}, {"$$$(:):", 6}, {"$a(:)", 3}, {"$ (:)", 3}, {"$):", 2}, {"$}:", 2}, {"$[:", 2}, {"$($):", 4}, {"$($:):", 5}, {"$($$):", 5}, {"${$}:", 4}, {"$($(:", -1}, {"$(:$", -1},
		// other bytes
		{"é:", 2}, {"\xff:\x80", 1}, {"$(é:\xff):", 7}, {"\x00$(\x00:\x00):", 7}, {"$\uff08:", 4}, {"\uff04(:", 4}, {"$(\uff09:", -1}, {"\n:", 1}, {"$(\n:\n):", 6},
	} {
		if c.at < 0 {
			isWhole(t, c.s, ":")
			continue
		}
		isCut(t, c.s, []string{":"}, c.s[:c.at], ":", c.s[c.at+1:])
	}
}

func isOpening(s string) bool { return strings.HasPrefix(s, "$(") || strings.HasPrefix(s, "${") }

// closedAt is where what opens at a place is closed, word by word: at the next one
// of its closing bytes that closes nothing that opens behind it; len(s): never.
func closedAt(s string, at int) int {
	closing := map[byte]byte{'(': ')', '{': '}'}[s[at+1]]
	for i := at + 2; i < len(s); i++ {
		if isOpening(s[i:]) {
			i = closedAt(s, i)
		} else if s[i] == closing {
			return i
		}
	}
	return len(s)
}

// outside tells of each byte whether it is.
func outside(s string) []bool {
	l := make([]bool, len(s))
	for i := 0; i < len(s); i++ {
		if isOpening(s[i:]) {
			i = closedAt(s, i)
		} else {
			l[i] = true
		}
	}
	return l
}

func cutByWords(s string, signs []string) (string, string, string) {
	for i, isOutside := range outside(s) {
		for _, sign := range signs {
			if isOutside && sign != "" && strings.HasPrefix(s[i:], sign) {
				return s[:i], sign, s[i+len(sign):]
			}
		}
	}
	return s, "", ""
}

func TestCutWordByWord(t *testing.T) {
	for _, s := range texts(6, "$", "(", ")", "{", "}", ":", "=") {
		for _, signs := range [][]string{{":"}, {":=", "=", ":"}, {":", ":=", "="}, {"$", ")", "}"}, {"(", "{"}, {"$$", "=$(", "):", "}="}, {""}} {
			ahead, sign, behind := cutByWords(s, signs)
			isCut(t, s, signs, ahead, sign, behind)
		}
		if t.Failed() {
			return
		}
	}
	for _, s := range texts(8, "$(", "${", ")", "}", ":") {
		ahead, sign, behind := cutByWords(s, []string{":"})
		isCut(t, s, []string{":"}, ahead, sign, behind)
		if t.Failed() {
			return
		}
	}
}

// P2: conditionals and includes

func TestIfeq(t *testing.T) {
	for _, op := range []string{"ifeq", "ifneq"} {
		for s, want := range map[string]Node{
			"(a,b)": ifs(1, op, "a", "b"), "(,)": ifs(1, op, "", ""), "(a,)": ifs(1, op, "a", ""), "(,b)": ifs(1, op, "", "b"),
			"( , )": ifs(1, op, "", ""), "( a b\t,\tc d )": ifs(1, op, "a b", "c d"), "  (a,b)": ifs(1, op, "a", "b"), "\t(a,b)\t ": ifs(1, op, "a", "b"),
			"(a,b,c)": ifs(1, op, "a", "b,c"), "(,,)": ifs(1, op, "", ","), "(a,(b))": ifs(1, op, "a", "(b)"), "((a),b)": ifs(1, op, "(a)", "b"), "(a,b) (c)": ifs(1, op, "a", "b) (c"),
			"($(f a,b),c)": ifs(1, op, "$(f a,b)", "c"), "(${f a,b},c)": ifs(1, op, "${f a,b}", "c"), "(a,$(f b,c))": ifs(1, op, "a", "$(f b,c)"), "($(f $(g a,b),c),$(h))": ifs(1, op, "$(f $(g a,b),c)", "$(h)"),
			"(${a)},b)": ifs(1, op, "${a)}", "b"), "(a,$(b)": ifs(1, op, "a", "$(b"), "(a,$)": ifs(1, op, "a", "$"), "($,b)": ifs(1, op, "$", "b"), "(é,\xff)": ifs(1, op, "é", "\xff"), "(a:=b,c=d)": ifs(1, op, "a:=b", "c=d"), "(a\n,\n)": ifs(1, op, "a\n", "\n"),
		} {
			areNodes(t, []lex.Line{{No: 1, Text: op + " " + s}, {No: 2, Text: "endif"}}, want, ends(2))
		}
		for _, s := range []string{
			"", " ", " (", " )", " ()", " ,", " a,b", " (a,b", " a,b)", " (a)", " (ab) ", " )a,b(", " {a,b}", " \"a\" \"b\"", " (a b)", " (a;b)",
			" ($(a,b))", " ($(a,b)", " (${a,b})", " ($(f a,b) c)", " ($(a},b)", " ($($(a),b))", " (a,b) c", " x (a,b)", " (a,b).", " = (a,b)", " := b", " : b", " a", " $(a,b)", " ${a,b}",
		} {
			isWrong(t, op+s+"\nendif", api.ErrForm, 1)
		}
	}
}

func TestIfdef(t *testing.T) {
	for _, op := range []string{"ifdef", "ifndef"} {
		long := strings.Repeat("x", 40)
		is(t, op+" x\nendif", ifs(1, op, "x", ""), ends(2))
		is(t, op+" \t x.y-Z_9\t \nendif", ifs(1, op, "x.y-Z_9", ""), ends(2))
		is(t, op+"\tx\nendif", ifs(1, op, "x", ""), ends(2))
		is(t, op+" "+long+"\nendif", ifs(1, op, long, ""), ends(2))
		is(t, op+" "+op+"\nendif", ifs(1, op, op, ""), ends(2))
		is(t, op+" else\nendif", ifs(1, op, "else", ""), ends(2))
		for _, s := range []string{
			"", " ", " a b", " a a", " a b c", " " + long + "x", " a/b", " $(a)", " $a", " a,b", " (a)", " a:", " =", " = b", " := b", " a = b", " : b", " é", " a\xff", " a\x00", " %", " a |",
		} {
			isWrong(t, op+s+"\nendif", api.ErrForm, 1)
		}
	}
}

func TestElseAndEndif(t *testing.T) {
	is(t, "ifdef x\nelse\nendif", ifs(1, "ifdef", "x", ""), elses(2), ends(3))
	is(t, "ifdef x\n else \t\n \tendif \t", ifs(1, "ifdef", "x", ""), elses(2), ends(3))
	for _, word := range []string{"else", "endif"} {
		for _, s := range []string{" x", " = b", " := b", " ?= b", " += b", " : b", "\t: b", " ifdef x", " ifeq (a,b)", " else", " endif", " |", " $(a)", " é", " \n", " ,"} {
			areWrong(t, []lex.Line{{No: 1, Text: "ifdef x"}, {No: 2, Text: word + s}, {No: 3, Text: "endif"}}, api.ErrForm, 2)
		}
	}
}

func TestInclude(t *testing.T) {
	for _, op := range []string{"include", "-include"} {
		is(t, op+" a", includes(1, op, "a"))
		is(t, op+"\ta  b\t$(c) ", includes(1, op, "a  b\t$(c)"))
		is(t, " \t"+op+" a", includes(1, op, "a"))
		is(t, op+" "+op, includes(1, op, op))
		is(t, op+" a:b | c = d", includes(1, op, "a:b | c = d"))
		is(t, op+" = b", includes(1, op, "= b"))
		is(t, op+" := b", includes(1, op, ":= b"))
		is(t, op+" : b", includes(1, op, ": b"))
		is(t, op+" $(", includes(1, op, "$("))
		is(t, op+" \xff é", includes(1, op, "\xff é"))
		areNodes(t, []lex.Line{{No: 1, Text: op + " \n"}}, includes(1, op, "\n"))
		isWrong(t, op, api.ErrForm, 1)
		isWrong(t, op+" \t ", api.ErrForm, 1)
	}
}

func TestLongerWordsAreNoWordsOfTheirOwn(t *testing.T) {
	for _, word := range []string{"ifeq", "ifneq", "ifdef", "ifndef", "else", "endif", "include", "-include"} {
		is(t, word+"x = b", assign(1, word+"x", "=", "b"))
		is(t, "x"+word+" = b", assign(1, "x"+word, "=", "b"))
		is(t, word+"=b", assign(1, word, "=", "b"))
		is(t, word+":=b", assign(1, word, ":=", "b"))
		is(t, word+"?= b", assign(1, word, "?=", "b"))
		is(t, word+"+= b", assign(1, word, "+=", "b"))
		is(t, word+": b", rules(1, word, "", "b", ""))
		is(t, word+"s "+word+": "+word, rules(1, word+"s "+word, "", word, ""))
		is(t, "a "+word+": b", rules(1, "a "+word, "", "b", ""))
		is(t, strings.ToUpper(word)+" = b", assign(1, strings.ToUpper(word), "=", "b"))
		is(t, strings.ToUpper(word)+": (a,b)", rules(1, strings.ToUpper(word), "", "(a,b)", ""))
		isWrong(t, word+"(a,b)", api.ErrForm, 1)
		isWrong(t, word+"x a", api.ErrForm, 1)
		isWrong(t, word+"x", api.ErrForm, 1)
		isWrong(t, strings.ToUpper(word), api.ErrForm, 1)
		isWrong(t, "x"+word+" x", api.ErrForm, 1)
		isWrong(t, "$("+word+") x", api.ErrForm, 1)
		isWrong(t, word+"\\ x", api.ErrForm, 1)
		areWrong(t, []lex.Line{{No: 1, Text: word + "\n x"}}, api.ErrForm, 1)
	}
	is(t, "-ifdef : b", rules(1, "-ifdef", "", "b", ""))
	is(t, "-else = b", assign(1, "-else", "=", "b"))
	is(t, "--include = b", assign(1, "--include", "=", "b"))
}

// P2: assigns

func TestAssign(t *testing.T) {
	for _, op := range []string{":=", "?=", "+=", "="} {
		is(t, "a "+op+" b", assign(1, "a", op, "b"))
		is(t, "a"+op+"b", assign(1, "a", op, "b"))
		is(t, " \ta \t"+op+" \tb c\t ", assign(1, "a", op, "b c"))
		is(t, "a "+op, assign(1, "a", op, ""))
		is(t, "a "+op+" \t ", assign(1, "a", op, ""))
		is(t, strings.Repeat("x", 40)+op, assign(1, strings.Repeat("x", 40), op, ""))
		is(t, "a"+op+op+"b", assign(1, "a", op, op+"b"))
		for _, other := range []string{":=", "?=", "+=", "=", ":", "|", "$(", "${", "$", ")", "}", "#", "\\"} {
			is(t, "a"+op+"b "+other+" c", assign(1, "a", op, "b "+other+" c"))
			is(t, "a"+op+other, assign(1, "a", op, other))
		}
		is(t, "a "+op+" $(x:y=z) ${b", assign(1, "a", op, "$(x:y=z) ${b"))
		is(t, "a "+op+" é\xff", assign(1, "a", op, "é\xff"))
		areNodes(t, []lex.Line{{No: 1, Text: "a" + op + "\nb\n"}}, assign(1, "a", op, "\nb\n"))
		for _, name := range []string{
			"", " ", "a b", "$(x)", "${x}", "$a", "a/b", "é", "\xff", strings.Repeat("x", 41), "a,b", "(a)", "a|b", "$(a" + op + "b)", "${a" + op + "b}", "$(x:y=z)", "%", "a$",
		} {
			isWrong(t, name+op+"b", api.ErrForm, 1)
		}
	}
	isWrong(t, "a ? = b", api.ErrForm, 1)
	isWrong(t, "a + = b", api.ErrForm, 1)
	isWrong(t, "a ?", api.ErrForm, 1)
	isWrong(t, "a + b", api.ErrForm, 1)
	isWrong(t, "a?b = c", api.ErrForm, 1)
	isWrong(t, "a ??= c", api.ErrForm, 1)
	isWrong(t, "a ++= c", api.ErrForm, 1)
}

func TestTheFirstSignOutside(t *testing.T) {
	is(t, "a:=b:c", assign(1, "a", ":=", "b:c"))
	is(t, "a=b:=c", assign(1, "a", "=", "b:=c"))
	is(t, "a:b:=c", rules(1, "a", "b", "=c", ""))
	is(t, "a:b?=c", rules(1, "a", "", "b?=c", ""))
	is(t, "a:b+=c", rules(1, "a", "", "b+=c", ""))
	is(t, "a: b=c", rules(1, "a", "", "b=c", ""))
	is(t, "a: =c", rules(1, "a", "", "=c", ""))
	is(t, "a+=b?=c", assign(1, "a", "+=", "b?=c"))
	is(t, "a?=b+=c", assign(1, "a", "?=", "b+=c"))
	for _, inner := range []string{":=", "?=", "+=", "=", ":"} {
		for _, opened := range []string{"$(x" + inner + "y)", "${x" + inner + "y}", "$(${x" + inner + "y})", "${)" + inner + "}"} {
			is(t, opened+": b", rules(1, opened, "", "b", ""))
			is(t, "a "+opened+" : b", rules(1, "a "+opened, "", "b", ""))
			for _, op := range []string{":=", "?=", "+=", "="} {
				isWrong(t, opened+op+"b", api.ErrForm, 1)
			}
		}
		isWrong(t, "$(x"+inner+"y)", api.ErrForm, 1)
		isWrong(t, "$(x"+inner+"y", api.ErrForm, 1)
		isWrong(t, "${x)"+inner+"y", api.ErrForm, 1)
		isWrong(t, "a $(x "+inner+" b", api.ErrForm, 1)
	}
}

func TestLinesWithoutASign(t *testing.T) {
	for _, s := range []string{"w", "a b", "(a)", "$", "$$", "$(", "$(a)", "${a}", "a | b", "|", "?", "+", "é", "\xff", "\x00", "define x", "endef", "#", "export a", "\\"} {
		isWrong(t, s, api.ErrForm, 1)
	}
	for _, s := range []string{"", " ", "\t", " \t \t", "\n", "\r"} {
		areWrong(t, []lex.Line{{No: 1, Text: s}}, api.ErrForm, 1)
		areWrong(t, []lex.Line{{No: 4, Text: "a=b"}, {No: 7, Text: s}}, api.ErrForm, 7)
	}
}

// P2: rules

func TestRule(t *testing.T) {
	is(t, "t:", rules(1, "t", "", "", ""))
	is(t, "t: \t ", rules(1, "t", "", "", ""))
	is(t, "t:a", rules(1, "t", "", "a", ""))
	is(t, " \tt\tu : a  b\t", rules(1, "t\tu", "", "a  b", ""))
	is(t, "t: a | b", rules(1, "t", "", "a", "b"))
	is(t, "t:|", rules(1, "t", "", "", ""))
	is(t, "t: | b c ", rules(1, "t", "", "", "b c"))
	is(t, "t: a |", rules(1, "t", "", "a", ""))
	is(t, "t: p: a", rules(1, "t", "p", "a", ""))
	is(t, "t:p:", rules(1, "t", "p", "", ""))
	is(t, "t: \t%.o x\t : %.c \t| d ", rules(1, "t", "%.o x", "%.c", "d"))
	is(t, "t:p:|", rules(1, "t", "p", "", ""))
	is(t, "t:p:|d", rules(1, "t", "p", "", "d"))
	is(t, "%.o: %.c", rules(1, "%.o", "", "%.c", ""))
	is(t, ".PHONY: all", rules(1, ".PHONY", "", "all", ""))
	is(t, "a | b: c", rules(1, "a | b", "", "c", ""))
	is(t, "é \xff: ß", rules(1, "é \xff", "", "ß", ""))
	is(t, "$(b):$(p):$(c)|$(d)", rules(1, "$(b)", "$(p)", "$(c)", "$(d)"))
	areNodes(t, []lex.Line{{No: 1, Text: "\n:\n:\n|\n"}}, rules(1, "\n", "\n", "\n", "\n"))
}

func TestRuleOutside(t *testing.T) {
	is(t, "t: $(a:b)", rules(1, "t", "", "$(a:b)", ""))
	is(t, "t: $(a:b): $(c:d=e) | $(f:g)", rules(1, "t", "$(a:b)", "$(c:d=e)", "$(f:g)"))
	is(t, "t: $(a|b) | ${c|d}", rules(1, "t", "", "$(a|b)", "${c|d}"))
	is(t, "t: $(a:b", rules(1, "t", "", "$(a:b", ""))
	is(t, "t: $(a|b", rules(1, "t", "", "$(a|b", ""))
	is(t, "t: a | $(b|c", rules(1, "t", "", "a", "$(b|c"))
	is(t, "t: p: $(a:b", rules(1, "t", "p", "$(a:b", ""))
	is(t, "t: ${a):b}:c", rules(1, "t", "${a):b}", "c", ""))
	is(t, "t: a$:b", rules(1, "t", "a$", "b", ""))
	is(t, "t:$|(b", rules(1, "t", "", "$", "(b"))
}

func TestRulesThatAreWrong(t *testing.T) {
	for _, s := range []string{
		":", ": x", " \t: x", ":: x", ":x:y", ":|",
		"t::", "t:: u", "t: : u", "t:\t \t: u", "t::u:v", "t: :", "t:: | d",
		"a: b: c: d", "t:p:a:", "t:p::", "t:p::a", "t:p: a | b: c", "t:p: | :", "t:p:$(a):b", "t:p: a=b:c", "t:p:a:=b",
		"a: b | c | d", "t:||", "t: | |", "t: a || b", "t:p: a | b | c", "t:p:||", "t: $(a) | $(b) | c", "t: a | $(b|c) | d", "t:$|(b|",
	} {
		isWrong(t, s, api.ErrForm, 1)
	}
}

func TestPatternWithASignForOrder(t *testing.T) {
	is(t, "t: a | b: c", rules(1, "t", "a | b", "c", ""))
	is(t, "t: | : c", rules(1, "t", "|", "c", ""))
	is(t, "t: a | b | c: d | e", rules(1, "t", "a | b | c", "d", "e"))
	isWrong(t, "t: a | b: c | d | e", api.ErrForm, 1)
	isWrong(t, "t: a | b: c | d : e", api.ErrForm, 1)
}

// P2: recipes

func TestRecipe(t *testing.T) {
	is(t, "t:\n\ta", rules(1, "t", "", "", "", "a"))
	is(t, "t: x\n\ta\n\tb\n\ta", rules(1, "t", "", "x", "", "a", "b", "a"))
	is(t, "t:\n\ta\nu:\n\tb\n\tc\nv:", rules(1, "t", "", "", "", "a"), rules(3, "u", "", "", "", "b", "c"), rules(6, "v", "", "", ""))
	is(t, "t:\n\ta\nx = y\nu:\n\tb", rules(1, "t", "", "", "", "a"), assign(3, "x", "=", "y"), rules(4, "u", "", "", "", "b"))
	for _, s := range []string{"x = y", "u: v", "else", "endif", "ifdef x", "ifeq (a)", "include", "include x", ":", "# x", "$(", "@-cc $@", "é\xff\x00", " ", "", "\t", " a ", "\ta\t"} {
		is(t, "t:\n\t"+s, rules(1, "t", "", "", "", s)) // as it is, whatever it says
	}
	areNodes(t, []lex.Line{{No: 1, Text: "t:"}, {No: 2, Tab: true}, {No: 3, Tab: true, Text: " \n"}}, rules(1, "t", "", "", "", "", " \n"))
}

func TestRecipesWithoutARule(t *testing.T) {
	for _, s := range []string{"run", "", " ", "\t"} {
		isWrong(t, "\t"+s, api.ErrForm, 1)
		isWrong(t, "x = y\n\t"+s, api.ErrForm, 2)
		isWrong(t, "include x\n\t"+s, api.ErrForm, 2)
		isWrong(t, "ifdef x\n\t"+s+"\nendif", api.ErrForm, 2)
		isWrong(t, "ifdef x\nelse\n\t"+s+"\nendif", api.ErrForm, 3)
		isWrong(t, "ifdef x\nendif\n\t"+s, api.ErrForm, 3)
		isWrong(t, "t: x\n\ta\nx = y\n\t"+s, api.ErrForm, 4)
		isWrong(t, "t: x\nifdef x\n\t"+s+"\nendif", api.ErrForm, 3)
		isWrong(t, "ifdef x\nt: x\n\ta\nendif\n\t"+s, api.ErrForm, 5)
		isWrong(t, "t: x\ninclude x\n\t"+s, api.ErrForm, 3)
	}
}

// No line with a tab is a node, since a recipe's lines are those with one (P4).
func TestNothingButRecipesBehindATab(t *testing.T) {
	for _, s := range []string{"x = y", "t: a", "ifdef x", "else", "endif", "include x"} {
		isWrong(t, "\t"+s, api.ErrForm, 1)
		isWrong(t, "x = y\n\t"+s, api.ErrForm, 2)
	}
}

func TestRecipesInConditionals(t *testing.T) {
	is(t, "ifdef x\nt:\n\ta\nelse\nt:\n\tb\nendif",
		ifs(1, "ifdef", "x", ""), rules(2, "t", "", "", "", "a"), elses(4), rules(5, "t", "", "", "", "b"), ends(7))
}

// P3

func TestConditionalsThatDoNotFit(t *testing.T) {
	isWrong(t, "else", api.ErrForm, 1)
	isWrong(t, "endif", api.ErrForm, 1)
	isWrong(t, "x = y\nelse\nendif", api.ErrForm, 2)
	isWrong(t, "ifdef a\nendif\nelse", api.ErrForm, 3)
	isWrong(t, "ifdef a\nendif\nendif", api.ErrForm, 3)
	isWrong(t, "ifdef a\nelse\nelse\nendif", api.ErrForm, 3)
	isWrong(t, "ifdef a\nelse\nx = y\nelse\nendif", api.ErrForm, 4)
	isWrong(t, "ifdef a\nelse\nendif\nelse", api.ErrForm, 4)
	isWrong(t, "ifdef a\nelse\nifdef b\nelse\nendif\nelse\nendif", api.ErrForm, 6)
	isWrong(t, "ifdef a\nifdef b\nelse\nelse\nendif\nendif", api.ErrForm, 4)
	isWrong(t, "ifdef a\nifdef b\nendif\nendif\nendif", api.ErrForm, 5)
}

func TestConditionalsThatFit(t *testing.T) {
	a, b := ifs(1, "ifdef", "a", ""), ifs(2, "ifdef", "b", "")
	is(t, "ifdef a\nifdef b\nelse\nendif\nelse\nendif", a, b, elses(3), ends(4), elses(5), ends(6))
	is(t, "ifdef a\nifdef b\nendif\nelse\nendif", a, b, ends(3), elses(4), ends(5))
	is(t, "ifdef a\nendif\nifdef b\nelse\nendif", a, ends(2), ifs(3, "ifdef", "b", ""), elses(4), ends(5))
	is(t, "ifdef a\nelse\nendif\nifdef b\nelse\nendif", a, elses(2), ends(3), ifs(4, "ifdef", "b", ""), elses(5), ends(6))
	is(t, "ifdef a\nelse\nifdef b\nelse\nendif\nendif", a, elses(2), ifs(3, "ifdef", "b", ""), elses(4), ends(5), ends(6))
}

func TestWhatIsOpenAtTheEnd(t *testing.T) {
	isWrong(t, "ifdef a", api.ErrShort, 0)
	isWrong(t, "x = y\nifdef a\nelse", api.ErrShort, 0)
	isWrong(t, "ifdef a\nifdef b\nendif", api.ErrShort, 0)
	isWrong(t, "ifdef a\nendif\nifdef b\nt:\n\ta", api.ErrShort, 0)
	isWrong(t, "ifdef a\nelse\nifdef b\nelse\nendif", api.ErrShort, 0)
	isWrong(t, "ifeq (a,b)", api.ErrShort, 0)
	isWrong(t, "t:\n\ta\nifneq (,)\n", api.ErrShort, 0)
}

func TestMaxDepth(t *testing.T) {
	const most = api.MaxDepth
	in, out := strings.Repeat("ifdef a\n", most), strings.Repeat("endif\n", most)
	var want []Node
	for i := range most {
		want = append(want, ifs(i+1, "ifdef", "a", ""))
	}
	for i := range most {
		want = append(want, ends(most+i+1))
	}
	is(t, in+out, want...)
	isWrong(t, in, api.ErrShort, 0)
	isWrong(t, in+"ifdef a\n", api.ErrDeep, most+1)
	isWrong(t, in+"ifneq (,)\nendif\n"+out, api.ErrDeep, most+1)
	isWrong(t, in+in, api.ErrDeep, most+1)
	isWrong(t, "x = y\n"+in+"t: a\n\tb\nifdef a\nendif\n"+out, api.ErrDeep, most+4)
	isWrong(t, in+strings.Repeat("ifdef a\nendif\n", 3)+out, api.ErrDeep, most+1)
	isWrong(t, in+out+in+"ifdef a\nendif\n"+out, api.ErrDeep, 3*most+1)

	// it counts what is open, not what there was
	wide := strings.Repeat("ifdef a\nelse\nendif\n", 3*most)
	if l, e, no := Parse(lines(wide)); len(l) != 9*most || e != api.OK || no != 0 {
		t.Error(len(l), e, no)
	}
	last := strings.TrimSuffix(in, "ifdef a\n") + wide + strings.TrimSuffix(out, "endif\n")
	if l, e, no := Parse(lines(last)); len(l) != 11*most-2 || e != api.OK || no != 0 {
		t.Error(len(l), e, no)
	}
	elsed := strings.Repeat("ifdef a\nelse\n", most)
	if l, e, no := Parse(lines(elsed + out)); len(l) != 3*most || e != api.OK || no != 0 {
		t.Error(len(l), e, no)
	}
	isWrong(t, elsed+"ifdef a\nendif\n"+out, api.ErrDeep, 2*most+1)
}

func TestTheFirstLineThatIsWrong(t *testing.T) {
	isWrong(t, "w\nw", api.ErrForm, 1)
	isWrong(t, "x = y\nw\n:\nelse", api.ErrForm, 2)
	isWrong(t, "endif\nw", api.ErrForm, 1)
	isWrong(t, "x = y\nw\nendif", api.ErrForm, 2)
	isWrong(t, "\ta\nw", api.ErrForm, 1)
	isWrong(t, "t:\n\ta\nx = y\n\ta\nw", api.ErrForm, 4)
	isWrong(t, "ifdef a\nelse\nelse\nw", api.ErrForm, 3)
}

// ErrForm is named first, so it goes ahead of the others wherever it is.
func TestTheErrorThatIsNamedFirst(t *testing.T) {
	const most = api.MaxDepth
	in, out := strings.Repeat("ifdef a\n", most), strings.Repeat("endif\n", most)
	isWrong(t, "ifdef a\nw", api.ErrForm, 2)
	isWrong(t, "w\nifdef a", api.ErrForm, 1)
	isWrong(t, "w\n"+in+"ifdef a", api.ErrForm, 1)
	isWrong(t, in+"w\nifdef a", api.ErrForm, most+1)
	isWrong(t, in+"ifdef a b\nifdef a\n", api.ErrForm, most+1)
	isWrong(t, in+"ifdef a\nw\nw", api.ErrForm, most+2)
	isWrong(t, in+"ifdef a\nelse\nelse", api.ErrForm, most+3)
	isWrong(t, in+"ifdef a\nendif\n"+out+"endif", api.ErrForm, 2*most+3)
	isWrong(t, in+"ifdef a\nendif\n"+out+"ifdef a", api.ErrDeep, most+1)
	isWrong(t, in+"ifdef a\n"+in, api.ErrDeep, most+1)
}

// P2 to P4, word by word

// signsAt tells where the first of some signs is in a text whose bytes that are not
// outside are hidden.
var (
	signsAt = regexp.MustCompile(`(?s)^(.*?)(:=|\?=|\+=|=|:)(.*)$`)
	ruleAt  = regexp.MustCompile(`(?s)^(?:([^:]*):)?([^:|]*)(?:\|([^:|]*))?$`)
	ifAt    = regexp.MustCompile(`(?s)^\((.*)\)$`)
	nameAt  = regexp.MustCompile(`^[A-Za-z0-9_.-]{1,40}$`)
	commaAt = regexp.MustCompile(`(?s)^([^,]*),(.*)$`)
)

func hidden(s string) string {
	b := []byte(s)
	for i, isOutside := range outside(s) {
		if !isOutside {
			b[i] = 'x'
		}
	}
	return string(b)
}

// piece is the trimmed part of a text that a group was found at.
func piece(s string, at []int, group int) string {
	if at[2*group] < 0 {
		return ""
	}
	return strings.Trim(s[at[2*group]:at[2*group+1]], " \t")
}

func nodeByWords(s string) (Node, bool) {
	s = strings.Trim(s, " \t")
	word, rest, _ := strings.Cut(strings.ReplaceAll(s, "\t", " "), " ")
	rest = strings.Trim(s[len(s)-len(rest):], " \t")
	switch word {
	case "ifeq", "ifneq":
		between := ifAt.FindStringSubmatch(rest)
		if between == nil {
			return Node{}, false
		}
		at := commaAt.FindStringSubmatchIndex(hidden(between[1]))
		if at == nil {
			return Node{}, false
		}
		return ifs(0, word, piece(between[1], at, 1), piece(between[1], at, 2)), true
	case "ifdef", "ifndef":
		return ifs(0, word, rest, ""), nameAt.MatchString(rest)
	case "else":
		return elses(0), rest == ""
	case "endif":
		return ends(0), rest == ""
	case "include", "-include":
		return includes(0, word, rest), rest != ""
	}
	at := signsAt.FindStringSubmatchIndex(hidden(s))
	if at == nil {
		return Node{}, false
	}
	ahead, sign, behind := piece(s, at, 1), piece(s, at, 2), s[at[6]:at[7]]
	if sign != ":" {
		return assign(0, ahead, sign, piece(s, at, 3)), nameAt.MatchString(ahead)
	}
	at = ruleAt.FindStringSubmatchIndex(hidden(behind))
	if at == nil {
		return Node{}, false
	}
	pattern := piece(behind, at, 1)
	ok := ahead != "" && (at[2] < 0 || pattern != "")
	return rules(0, ahead, pattern, piece(behind, at, 2), piece(behind, at, 3)), ok
}

// byWords is P2 and P3 word by word.
func byWords(l []lex.Line) ([]Node, api.Errno, int) {
	var all []Node
	e, no := api.OK, 0
	var hadElse []bool
	for _, x := range l {
		if x.Tab {
			if len(all) == 0 || all[len(all)-1].Kind != Rule {
				return nil, api.ErrForm, x.No
			}
			all[len(all)-1].Recipe = append(all[len(all)-1].Recipe, x.Text)
			continue
		}
		n, ok := nodeByWords(x.Text)
		depth := len(hadElse)
		if !ok || (n.Kind == Else || n.Kind == End) && depth == 0 || n.Kind == Else && hadElse[depth-1] {
			return nil, api.ErrForm, x.No
		}
		switch n.Kind {
		case If:
			if depth >= api.MaxDepth && e == api.OK {
				e, no = api.ErrDeep, x.No
			}
			hadElse = append(hadElse, false)
		case Else:
			hadElse[depth-1] = true
		case End:
			hadElse = hadElse[:depth-1]
		}
		n.No = x.No
		all = append(all, n)
	}
	if e == api.OK && len(hadElse) > 0 {
		e = api.ErrShort
	}
	if e != api.OK {
		return nil, e, no
	}
	return all, e, no
}

func isByWords(t *testing.T, l []lex.Line) {
	t.Helper()
	want, wantErr, wantNo := byWords(l)
	if got, e, no := Parse(l); !same(got, want) || e != wantErr || no != wantNo {
		t.Fatalf("Parse(%s) = %s, %d, %d, want %s, %d, %d", short(l), short(got), int(e), no, short(want), int(wantErr), wantNo)
	}
}

func TestOneLineWordByWord(t *testing.T) {
	for _, s := range texts(6, "a", " ", ":", "=", "|", "$(", ")") {
		isByWords(t, []lex.Line{{No: 3, Text: s}})
	}
	for _, s := range texts(5, "a", "\t", "\n", "?", "+", "=", ":", "${", "}") {
		isByWords(t, []lex.Line{{No: 3, Text: s}})
	}
	for _, word := range []string{"ifeq", "ifneq", "ifdef", "ifndef", "else", "endif", "include", "-include"} {
		for _, s := range texts(4, "a", " ", "(", ")", ",", "$(", "=", ":") {
			isByWords(t, []lex.Line{{No: 3, Text: word + s}, {No: 5, Text: "endif"}})
			isByWords(t, []lex.Line{{No: 3, Text: "\t " + word + " " + s}, {No: 5, Text: "endif"}})
		}
		for _, s := range texts(3, "a", "\t", " ", "$(a,b)", "(", ")", ",") {
			isByWords(t, []lex.Line{{No: 3, Text: word + "\t(" + s + ")"}, {No: 5, Text: "endif"}})
		}
	}
}

func TestManyLinesWordByWord(t *testing.T) {
	for _, s := range texts(6, "a=b\n", "t:a\n", "\tc\n", "ifdef a\n", "else\n", "endif\n", "w\n") {
		isByWords(t, lines(s))
	}
	const most = api.MaxDepth
	in, out := strings.Repeat("ifdef a\n", most-1), strings.Repeat("endif\n", most-1)
	for _, s := range texts(5, "t:a\n", "\tc\n", "ifdef a\n", "else\n", "endif\n") {
		isByWords(t, lines(in+s))
		isByWords(t, lines(in+s+out))
	}
}

// P4

func TestNumbersAreThoseOfLines(t *testing.T) {
	const far = 1 << 40
	l := []lex.Line{{No: 7, Text: "a = b"}, {No: 9, Text: "t:"}, {No: 12, Tab: true, Text: "c"}, {No: far, Text: "ifdef a"}, {No: far + 3, Text: "else"}, {No: far + 9, Text: "endif"}, {No: far + 10, Text: "include x"}}
	areNodes(t, l, assign(7, "a", "=", "b"), rules(9, "t", "", "", "", "c"), ifs(far, "ifdef", "a", ""), elses(far+3), ends(far+9), includes(far+10, "include", "x"))
	l[5].Text = "endif x"
	areWrong(t, l, api.ErrForm, far+9)

	// any numbers will do
	areNodes(t, []lex.Line{{No: 5, Text: "a=b"}, {No: 5, Text: "c=d"}, {No: -1, Text: "e=f"}, {Text: "g=h"}},
		assign(5, "a", "=", "b"), assign(5, "c", "=", "d"), assign(-1, "e", "=", "f"), assign(0, "g", "=", "h"))
	areWrong(t, []lex.Line{{No: 5, Text: "a=b"}, {No: -4, Text: "w"}, {No: 1, Text: "w"}}, api.ErrForm, -4)
	areWrong(t, []lex.Line{{No: 5, Text: "a=b"}, {Text: "w"}}, api.ErrForm, 0)
	areWrong(t, []lex.Line{{No: 8, Text: "ifdef a"}}, api.ErrShort, 0)
}

func TestNumbersOfWhatIsTooDeep(t *testing.T) {
	for _, no := range []int{0, -3, 77} {
		l := lines(strings.Repeat("ifdef a\n", api.MaxDepth+2))
		l[api.MaxDepth].No = no
		areWrong(t, l, api.ErrDeep, no)
	}
}

func TestWhatFollowsOfLexedTexts(t *testing.T) {
	for _, s := range texts(6, "a = b\n", "t: a\n", "\tc # d\n", "# e\n", "ifdef a\\\n\n", "endif\n") {
		l, e, _ := lex.Lex(s)
		if e != api.OK {
			t.Fatal(s)
		}
		all, e, _ := Parse(l)
		if e != api.OK {
			continue
		}
		var plain []int
		var tabbed []string
		for _, x := range l {
			if x.Tab {
				tabbed = append(tabbed, x.Text)
			} else {
				plain = append(plain, x.No)
			}
		}
		for _, n := range all {
			if len(plain) == 0 || n.No != plain[0] {
				t.Fatalf("%q: a node of line %d", s, n.No)
			}
			plain = plain[1:]
			if len(tabbed) < len(n.Recipe) || !slices.Equal(n.Recipe, tabbed[:len(n.Recipe)]) {
				t.Fatalf("%q: a recipe %q", s, n.Recipe)
			}
			tabbed = tabbed[len(n.Recipe):]
		}
		if len(plain)+len(tabbed) != 0 {
			t.Fatalf("%q: %d and %d lines are left out", s, len(plain), len(tabbed))
		}
	}
}

// P1 to P4 of the document

func TestNoLines(t *testing.T) {
	areNodes(t, nil)
	areNodes(t, []lex.Line{})
}

func TestBigInputsEnd(t *testing.T) {
	const many = 1 << 17
	in, out := strings.Repeat("$(${", many), strings.Repeat("})", many)
	isCut(t, in+":"+out+":b", []string{":"}, in+":"+out, ":", "b")
	isWhole(t, in+out[:len(out)-1]+":", ":")
	isWhole(t, in+":", ":")
	isCut(t, out+"$:", []string{":="}, out+"$:", "", "")
	isCut(t, strings.Repeat("$", many)+"(:):", []string{":"}, strings.Repeat("$", many)+"(:)", ":", "")
	isCut(t, strings.Repeat("$(a)", many)+":", []string{"", ":"}, strings.Repeat("$(a)", many), ":", "")
	if Name(strings.Repeat("a", many)) {
		t.Error("a long name")
	}

	is(t, "t:"+strings.Repeat(" a", many), rules(1, "t", "", strings.Repeat("a ", many)[:2*many-1], ""))
	isWrong(t, strings.Repeat(":", many), api.ErrForm, 1)
	isWrong(t, "t: a"+strings.Repeat("|", many), api.ErrForm, 1)
	is(t, "a="+strings.Repeat("=", many), assign(1, "a", "=", strings.Repeat("=", many)))
	is(t, "include"+strings.Repeat(" ", many)+"a", includes(1, "include", "a"))
	isWrong(t, "ifeq ("+in+","+out+")", api.ErrForm, 1)
	isWrong(t, strings.Repeat("\n", many), api.ErrForm, 1)

	cooked := lines("t:\n" + strings.Repeat("\ta\n", many))
	if l, e, _ := Parse(cooked); len(l) != 1 || e != api.OK || len(l[0].Recipe) != many {
		t.Error("a long recipe")
	}
	if l, e, _ := Parse(lines(strings.Repeat("a=b\n", many))); len(l) != many || e != api.OK {
		t.Error("many lines")
	}
	isWrong(t, strings.Repeat("ifdef a\n", many), api.ErrDeep, api.MaxDepth+1)
	isWrong(t, strings.Repeat("ifdef a\n", many)+strings.Repeat("endif\n", many), api.ErrDeep, api.MaxDepth+1)
}

func TestNothingIsWrittenInto(t *testing.T) {
	backing := []lex.Line{{No: 1, Text: "t: a"}, {No: 2, Tab: true, Text: " b "}, {No: 3, Text: " c=d "}, {No: 4, Text: "w"}}
	kept := slices.Clone(backing)
	areNodes(t, backing[:3], rules(1, "t", "", "a", "", " b "), assign(3, "c", "=", "d"))
	areNodes(t, backing[:1], rules(1, "t", "", "a", ""))
	if !slices.Equal(backing, kept) {
		t.Errorf("%+v", backing)
	}
	signs := []string{"", ":=", ":", "="}
	isWhole(t, "a=b", signs[:3]...)
	isCut(t, "a:=b=c", signs[:2], "a", ":=", "b=c")
	if !slices.Equal(signs, []string{"", ":=", ":", "="}) {
		t.Errorf("%q", signs)
	}
}

func TestNodesHangOnNothingElse(t *testing.T) {
	const s = "t:\n\ta\n\tb\nu:\n\tc\nx = y"
	want := []Node{rules(1, "t", "", "", "", "a", "b"), rules(4, "u", "", "", "", "c"), assign(6, "x", "=", "y")}
	l := lines(s)
	first, _, _ := Parse(l)
	second, _, _ := Parse(l)
	for i := range l {
		l[i] = lex.Line{No: 99, Text: "other"}
	}
	if !same(first, want) {
		t.Errorf("%s hangs on the lines", short(first))
	}
	for i := range first {
		first[i].Recipe = spoiled(first[i].Recipe)
	}
	_ = append(first[:0], Node{}, Node{}, Node{})
	if !same(second, want) {
		t.Errorf("%s hangs on another answer", short(second))
	}
	is(t, s, want...)
}

func TestRecipesHangOnNothingElse(t *testing.T) {
	const many = 9
	var s strings.Builder
	for i := range many {
		s.WriteString("t:\n" + strings.Repeat("\ta\n", i))
	}
	for i := range many {
		all, _, _ := Parse(lines(s.String()))
		spoiled(all[i].Recipe)
		for k, n := range all {
			if k != i && !slices.Equal(n.Recipe, slices.Repeat([]string{"a"}, k)) {
				t.Errorf("recipe %d hangs on recipe %d: %q", k, i, n.Recipe)
			}
		}
	}
}

// spoiled writes into a list, and behind it as far as it has room.
func spoiled(l []string) []string {
	l = append(l, "other")
	l = l[:cap(l)]
	for i := range l {
		l[i] = "other"
	}
	return l
}
