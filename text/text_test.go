package text

import (
	"slices"
	"strings"
	"testing"

	"cooperage/api"
)

// every is all 256 bytes, each once.
func every() string {
	b := make([]byte, 256)
	for i := range b {
		b[i] = byte(i)
	}
	return string(b)
}

// texts tells all texts of at most size bytes of an alphabet.
func texts(alphabet string, size int) []string {
	all := []string{""}
	start := 0
	for range size {
		end := len(all)
		for _, s := range all[start:end] {
			for i := range len(alphabet) {
				all = append(all, s+alphabet[i:i+1])
			}
		}
		start = end
	}
	return all
}

// T1

func TestLines(t *testing.T) {
	for _, c := range []struct {
		s    string
		want []string
	}{
		{"", nil},
		{"a", []string{"a"}},
		{"a\n", []string{"a"}},
		{"a\nb", []string{"a", "b"}},
		{"a\n\nb", []string{"a", "", "b"}},
		{"\n", []string{""}},
		{"\n\n", []string{"", ""}},
		{"\na", []string{"", "a"}},
		{"a\n ", []string{"a", " "}},
		{" a\t\nb c\n", []string{" a\t", "b c"}},
		{"a\r\nb\v\f\x00\u0085\u2028c", []string{"a\r", "b\v\f\x00\u0085\u2028c"}},
		{"\xff\n\x80", []string{"\xff", "\x80"}},
	} {
		if got := Lines(c.s); !slices.Equal(got, c.want) {
			t.Errorf("Lines(%q) = %q, want %q", c.s, got, c.want)
		}
	}
}

func TestLinesPutTogetherAreTheText(t *testing.T) {
	for _, s := range texts("a\n ", 6) {
		l := Lines(s)
		if len(l) > 0 && l[len(l)-1] == "" && !strings.HasSuffix(s, "\n") {
			t.Errorf("Lines(%q) = %q: the last line has no byte", s, l)
		}
		whole := strings.Join(l, "\n")
		if strings.HasSuffix(s, "\n") {
			whole += "\n"
		}
		if whole != s {
			t.Errorf("Lines(%q) = %q", s, l)
		}
	}
}

func TestWords(t *testing.T) {
	for _, c := range []struct {
		s    string
		want []string
	}{
		{"", nil},
		{" ", nil},
		{"\t \t", nil},
		{"a", []string{"a"}},
		{" a\tbc", []string{"a", "bc"}},
		{"  a \t\t bc  ", []string{"a", "bc"}},
		{"a b a", []string{"a", "b", "a"}},
		{"a\nb c", []string{"a\nb", "c"}},
		{"\n", []string{"\n"}},
		{"a\vb\fc\rd\x00e f", []string{"a\vb\fc\rd\x00e", "f"}},
		{"a\u00a0b\u2003c\x85d\xa0", []string{"a\u00a0b\u2003c\x85d\xa0"}},
	} {
		if got := Words(c.s); !slices.Equal(got, c.want) {
			t.Errorf("Words(%q) = %q, want %q", c.s, got, c.want)
		}
	}
}

func TestWordsAreCutAtBlanksAlone(t *testing.T) {
	for i := range 256 {
		s := "a" + string([]byte{byte(i)}) + "b"
		want := []string{s}
		if i == 9 || i == 32 {
			want = []string{"a", "b"}
		}
		if got := Words(s); !slices.Equal(got, want) {
			t.Errorf("Words(%q) = %q, want %q", s, got, want)
		}
	}
}

func TestWordsEndWhenNoMoreAreAskedFor(t *testing.T) {
	for w := range words("a b c") {
		if w != "a" {
			t.Errorf("%q is told behind the break", w)
		}
		break
	}
	for piece := range between("a/b/c", isSlash) {
		if piece != "a" {
			t.Errorf("%q is told behind the break", piece)
		}
		break
	}
}

func TestJoin(t *testing.T) {
	for _, c := range []struct {
		l    []string
		want string
	}{
		{nil, ""},
		{[]string{}, ""},
		{[]string{""}, ""},
		{[]string{"a"}, "a"},
		{[]string{"a", "b", "c"}, "a b c"},
		{[]string{"", ""}, " "},
		{[]string{"a", "", "b"}, "a  b"},
		{[]string{" a\t", "\n"}, " a\t \n"},
	} {
		if got := Join(c.l); got != c.want {
			t.Errorf("Join(%q) = %q, want %q", c.l, got, c.want)
		}
	}
}

func TestTrim(t *testing.T) {
	for _, c := range []struct{ s, want string }{
		{"", ""},
		{" ", ""},
		{" \t \t", ""},
		{"a", "a"},
		{" a", "a"},
		{"a\t", "a"},
		{"\t  a \tb\t ", "a \tb"},
		{"\na\n", "\na\n"},
		{" \n ", "\n"},
		{"\r\v\f\x00", "\r\v\f\x00"},
		{" \u00a0 ", "\u00a0"},
		{" \xff\x80\t", "\xff\x80"},
	} {
		if got := Trim(c.s); got != c.want {
			t.Errorf("Trim(%q) = %q, want %q", c.s, got, c.want)
		}
	}
}

// T2

func TestNumber(t *testing.T) {
	for _, c := range []struct {
		s    string
		want int
	}{
		{"0", 0}, {"1", 1}, {"9", 9}, {"10", 10}, {"100", 100}, {"90210", 90210},
		{"12345678", 12345678}, {"100000000", 100000000}, {"123456789", 123456789}, {"999999999", 999999999},
	} {
		if got, ok := Number(c.s); got != c.want || !ok {
			t.Errorf("Number(%q) = %d, %v", c.s, got, ok)
		}
	}
	for _, s := range []string{
		"", "00", "01", "007", "0123456789", "000000000", "1000000000", "1234567890", "99999999999999999999",
		"-1", "+1", "-0", " 1", "1 ", "1\n", "1.0", "1e3", "0x1", "1_0", "a", "12a", "a12", "1/", "1:", "\x001", "1\x00", "\u0661", "\uff11", "1\xff",
	} {
		if got, ok := Number(s); got != 0 || ok {
			t.Errorf("Number(%q) = %d, %v", s, got, ok)
		}
	}
}

func TestNumberOfEachByte(t *testing.T) {
	for i := range 256 {
		isDigit := '0' <= i && i <= '9'
		want := 0
		if isDigit {
			want = 100 + i - '0'
		}
		s := "10" + string([]byte{byte(i)})
		if got, ok := Number(s); got != want || ok != isDigit {
			t.Errorf("Number(%q) = %d, %v", s, got, ok)
		}
	}
}

func TestPath(t *testing.T) {
	x99 := strings.Repeat("x", 99)
	for _, s := range []string{
		"a", "a/b.c", "Makefile", "_-+09azAZ.z", "...", "a/...", ".a", "a.", "..a", "a..", ".a/b.", ".make/x", "-", "+", "_", "0",
		"a/b/c/d/e/f/g/h", x99, x99 + "x", x99[:98] + "/x", strings.Repeat("12345678901/", 7) + "1234567890123456",
	} {
		if !Path(s) {
			t.Errorf("Path(%q) is false", s)
		}
	}
	for _, s := range []string{
		"", "/", "//", "/a", "a/", "a//b", ".", "..", "./a", "../x", "a/.", "a/..", "a/./b", "a/../b",
		"a/b/c/d/e/f/g/h/i", "a/b/c/d/e/f/g/h/", "/a/b/c/d/e/f/g", x99 + "xx", x99[:98] + "/xx", strings.Repeat("a/", 50) + "a", strings.Repeat("x", 1<<16),
		"a b", "a\tb", "a\n", " a", "a%", "a%20b", "a\\b", "a:b", "a*", "a~", "a,b", "a=b", "a@b", "é", "a\x00", "a\xff", "\u212a",
	} {
		if Path(s) {
			t.Errorf("Path(%q) is true", s)
		}
	}
}

const plain = "ABCDEFGHIJKLMNOPQRSTUVWXYZabcdefghijklmnopqrstuvwxyz0123456789_-./+"

func TestPathOfEachByte(t *testing.T) {
	for i := range 256 {
		b := string([]byte{byte(i)})
		if got, want := Path("a"+b+"a"), strings.Contains(plain, b); got != want {
			t.Errorf("Path with the byte %d between: %v", i, got)
		}
	}
}

// T3

func TestQuote(t *testing.T) {
	for _, c := range []struct{ s, want string }{
		{"", "%"},
		{"a", "a"},
		{plain, plain},
		{" ", "%20"},
		{"a b", "a%20b"},
		{"\t\n", "%09%0A"},
		{"%", "%25"},
		{"%20", "%2520"},
		{"\x00\x7f\x80\xff", "%00%7F%80%FF"},
		{"é", "%C3%A9"},
		{"t: a\n\tupper a t\n", "t%3A%20a%0A%09upper%20a%20t%0A"},
	} {
		if got := Quote(c.s); got != c.want {
			t.Errorf("Quote(%q) = %q, want %q", c.s, got, c.want)
		}
		if got, e := Unquote(c.want); got != c.s || e != api.OK {
			t.Errorf("Unquote(%q) = %q, %v", c.want, got, e)
		}
	}
}

func TestQuoteOfEachByte(t *testing.T) {
	const digits = "0123456789ABCDEF"
	for i := range 256 {
		b := string([]byte{byte(i)})
		want := b
		if !strings.Contains(plain, b) {
			want = "%" + digits[i/16:i/16+1] + digits[i%16:i%16+1]
		}
		if got := Quote(b); got != want {
			t.Errorf("Quote of the byte %d = %q, want %q", i, got, want)
		}
	}
}

func TestUnquoteRefuses(t *testing.T) {
	for _, s := range []string{
		"", " ", "a b", "a\t", "a\n", "\x00", "é", "\xff", "a:b",
		"%%", "a%", "%a", "%2", "a%2", "%%20", "%20%", "%2%", "%20%2", "% 0", "%2 ",
		"%2g", "%g2", "%G0", "%0G", "%+5", "%-5", "%0x", "%/0", "%:0", "%@0", "%0/", "%0:", "%0@",
		"%0a", "%ff", "%fF", "%Ff", "%c3%a9",
		"%41", "%5A", "%61", "%7A", "%30", "%39", "%5F", "%2D", "%2E", "%2F", "%2B", "a%41", "%20%41",
	} {
		if got, e := Unquote(s); got != "" || e != api.ErrForm {
			t.Errorf("Unquote(%q) = %q, %v", s, got, e)
		}
	}
}

func TestUnquoteReadsJustWhatQuoteTells(t *testing.T) {
	// the bytes of the sources are all whose quoted form has bytes of the other alphabet alone
	told := map[string]string{}
	for _, s := range texts("24Aa\"$*\xa2\xa4\xaa", 5) {
		told[Quote(s)] = s
	}
	for _, q := range texts("%24Aa ", 5) {
		want, isQuoted := told[q]
		wantErr := api.ErrForm
		if isQuoted {
			wantErr = api.OK
		}
		if got, e := Unquote(q); got != want || e != wantErr {
			t.Errorf("Unquote(%q) = %q, %v, want %q, %v", q, got, e, want, wantErr)
		}
	}
}

// T4

func TestWordsOfJoinOfWords(t *testing.T) {
	for _, s := range texts("a \t\n%", 6) {
		l := Words(s)
		if got := Words(Join(l)); !slices.Equal(got, l) {
			t.Errorf("Words(Join(%q)) = %q", l, got)
		}
		for _, w := range l {
			if w == "" || strings.ContainsAny(w, " \t") {
				t.Errorf("Words(%q) tells %q", s, w)
			}
		}
	}
}

func TestQuotedIsOneWordAndComesBack(t *testing.T) {
	all := append(texts("a \t\n%0\xff", 5), every(), strings.Repeat(every(), 50), strings.Repeat(" ", 1<<16))
	for _, s := range all {
		q := Quote(s)
		if w := Words(q); len(w) != 1 || w[0] != q {
			t.Errorf("Words(Quote(%q)) = %q", s, w)
		}
		if strings.Contains(q, "\n") {
			t.Errorf("Quote(%q) has a byte 10", s)
		}
		if got, e := Unquote(q); got != s || e != api.OK {
			t.Errorf("Unquote(Quote(%q)) = %q, %v", s, got, e)
		}
	}
}

// P1 to P3

func TestListsHandedInAreLeftAlone(t *testing.T) {
	l := []string{"a", "b", "behind"}
	if got := Join(l[:2]); got != "a b" {
		t.Errorf("Join = %q", got)
	}
	if !slices.Equal(l, []string{"a", "b", "behind"}) {
		t.Errorf("the list is %q now", l)
	}
}

func TestListsAnsweredAreNew(t *testing.T) {
	for _, cut := range []func(string) []string{Lines, Words} {
		first := cut("a\nb \nc\n")
		want := slices.Clone(first)
		for i := range first {
			first[i] = "other"
		}
		_ = append(first, "more")
		if again := cut("a\nb \nc\n"); !slices.Equal(again, want) {
			t.Errorf("%q, want %q", again, want)
		}
	}
}

func TestLongTextsEnd(t *testing.T) {
	const many = 1 << 20
	if got := len(Words(strings.Repeat("a ", many))); got != many {
		t.Errorf("%d words", got)
	}
	if got := len(Lines(strings.Repeat("\n", many))); got != many {
		t.Errorf("%d lines", got)
	}
	if got := len(Join(make([]string, many))); got != many-1 {
		t.Errorf("%d bytes joined", got)
	}
	if got := Trim(strings.Repeat("\t ", many)); got != "" {
		t.Errorf("%d bytes trimmed", len(got))
	}
	if n, ok := Number(strings.Repeat("1", many)); n != 0 || ok {
		t.Errorf("Number = %d, %v", n, ok)
	}
	if Path(strings.Repeat("a/", many)) {
		t.Error("Path is true")
	}
	if got, e := Unquote(strings.Repeat("%20", many)); len(got) != many || e != api.OK {
		t.Errorf("%d bytes unquoted, %v", len(got), e)
	}
}
