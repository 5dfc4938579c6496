package lex

import (
	"fmt"
	"slices"
	"strings"
	"testing"

	"cooperage/api"
	"cooperage/text"
)

// is holds what Lex tells of a text that is right against what it must be.
func is(t *testing.T, s string, want ...Line) {
	t.Helper()
	if got, e, no := Lex(s); !slices.Equal(got, want) || e != api.OK || no != 0 {
		t.Errorf("Lex(%s) = %s, %d, %d, want %s", short(s), shown(got), int(e), no, shown(want))
	}
}

// isLong is is for a text that is wrong.
func isLong(t *testing.T, s string, want int) {
	t.Helper()
	if got, e, no := Lex(s); len(got) != 0 || e != api.ErrLong || no != want {
		t.Errorf("Lex(%s) = %d lines, %d, %d, want ErrLong, %d", short(s), len(got), int(e), no, want)
	}
}

func short(s string) string {
	if len(s) > 60 {
		return fmt.Sprintf("%q..%q of %d bytes", s[:30], s[len(s)-30:], len(s))
	}
	return fmt.Sprintf("%q", s)
}

func shown(l []Line) string {
	if len(l) > 6 {
		return shown(l[:3]) + ".." + shown(l[len(l)-3:]) + fmt.Sprintf(" of %d lines", len(l))
	}
	var b strings.Builder
	for _, x := range l {
		fmt.Fprintf(&b, "[%d %v %s]", x.No, x.Tab, short(x.Text))
	}
	return b.String()
}

// plain is a line that does not begin with a tab, tabbed is one that does.
func plain(no int, s string) Line { return Line{No: no, Text: s} }

func tabbed(no int, s string) Line { return Line{No: no, Tab: true, Text: s} }

func xs(n int) string { return strings.Repeat("x", n) }

// ranks is n lines `x`, with numbers from the one handed in on.
func ranks(from, n int) []Line {
	var l []Line
	for i := range n {
		l = append(l, plain(from+i, "x"))
	}
	return l
}

// texts tells all texts of at most size bytes of an alphabet.
func texts(alphabet string, size int) []string {
	all := []string{""}
	start := 0
	for range size {
		end := len(all)
		for _, s := range all[start:end] {
			for i := range len(alphabet) {
				all = append(all, s+alphabet[i:i+1])
			}
		}
		start = end
	}
	return all
}

// every is all texts that the tests below go through.
func every() []string { return texts("a \t\\\n#", 7) }

func isOdd(s string) bool {
	n := 0
	for strings.HasSuffix(s, `\`) {
		s, n = s[:len(s)-1], n+1
	}
	return n%2 == 1
}

// byWords is X1 and X2 word by word: what was put together so far is at hand all the time.
func byWords(s string) []Line {
	var l []Line
	lines := text.Lines(s)
	for i := 0; i < len(lines); i++ {
		x := Line{No: i + 1, Tab: strings.HasPrefix(lines[i], "\t"), Text: lines[i]}
		for isOdd(x.Text) && i+1 < len(lines) {
			i++
			ahead := strings.TrimRight(x.Text[:len(x.Text)-1], " \t")
			x.Text = ahead + " " + strings.TrimLeft(lines[i], " \t")
		}
		if isOdd(x.Text) {
			x.Text = x.Text[:len(x.Text)-1]
		}
		if at := strings.Index(x.Text, "#"); at >= 0 && !x.Tab {
			x.Text = x.Text[:at]
		}
		if x.Text = strings.Trim(x.Text, " \t"); x.Text != "" {
			l = append(l, x)
		}
	}
	return l
}

func TestExample(t *testing.T) {
	is(t, "a = b \\\n\tc # d\n\trun #\n", plain(1, "a = b c"), tabbed(3, "run #"))
}

// X1

func TestLinesThatDoNotGoOn(t *testing.T) {
	is(t, "")
	is(t, "\n")
	is(t, "\n\n\n")
	is(t, "a", plain(1, "a"))
	is(t, "a\n", plain(1, "a"))
	is(t, "a\nb", plain(1, "a"), plain(2, "b"))
	is(t, "a\nb\n", plain(1, "a"), plain(2, "b"))
	is(t, "\na\n\n\nb", plain(2, "a"), plain(5, "b"))
	is(t, "a b = $(c) d\n\tcc -o $@", plain(1, "a b = $(c) d"), tabbed(2, "cc -o $@"))
}

func TestHowManySigns(t *testing.T) {
	for _, c := range []struct {
		s    string
		want []Line
	}{
		// with a line behind
		{"a\\\nb", []Line{plain(1, "a b")}},
		{"a\\\\\nb", []Line{plain(1, `a\\`), plain(2, "b")}},
		{"a\\\\\\\nb", []Line{plain(1, `a\\ b`)}},
		{"a\\\\\\\\\nb", []Line{plain(1, `a\\\\`), plain(2, "b")}},
		{"\\\nb", []Line{plain(1, "b")}},
		{"\\\\\nb", []Line{plain(1, `\\`), plain(2, "b")}},
		{"\\\\\\\nb", []Line{plain(1, `\\ b`)}},
		// as the text's last line
		{`a\`, []Line{plain(1, "a")}},
		{`a\\`, []Line{plain(1, `a\\`)}},
		{`a\\\`, []Line{plain(1, `a\\`)}},
		{`\`, nil},
		{`\\`, []Line{plain(1, `\\`)}},
		{`\\\`, []Line{plain(1, `\\`)}},
		// as the text's last line, with a line feed behind
		{"a\\\n", []Line{plain(1, "a")}},
		{"a\\\\\n", []Line{plain(1, `a\\`)}},
		{"a\\\\\\\n", []Line{plain(1, `a\\`)}},
		{"\\\n", nil},
		// a line that is a line feed alone is a line behind
		{"a\\\n\n", []Line{plain(1, "a")}},
		{"a\\\n\nb", []Line{plain(1, "a"), plain(3, "b")}},
		{"\\\n\nb", []Line{plain(3, "b")}},
		// at the end alone they have a meaning
		{"\\a\nb", []Line{plain(1, `\a`), plain(2, "b")}},
		{"a\\ \nb", []Line{plain(1, `a\`), plain(2, "b")}},
		{"a\\\t\nb", []Line{plain(1, `a\`), plain(2, "b")}},
		{"a\\ ", []Line{plain(1, `a\`)}},
		{"a\\ \\\nb", []Line{plain(1, `a\ b`)}},
		{"a\\\\ \\\nb", []Line{plain(1, `a\\ b`)}},
		{"a\\/\nb", []Line{plain(1, `a\/`), plain(2, "b")}},
	} {
		is(t, c.s, c.want...)
	}
}

func TestLastLinePutOnLosesItsSign(t *testing.T) {
	is(t, "a\\\nb\\", plain(1, "a b"))
	is(t, "a\\\nb\\\n", plain(1, "a b"))
	is(t, "a\\\nb\\\\", plain(1, `a b\\`))
	is(t, "a\\\nb\\\\\\\n", plain(1, `a b\\`))
	is(t, "a\\\n\\", plain(1, "a"))
	is(t, "a\\\n \t\\\n", plain(1, "a"))
	is(t, "\\\n\\\n\\")
}

func TestOnAndOn(t *testing.T) {
	is(t, "a\\\nb\\\nc\nd", plain(1, "a b c"), plain(4, "d"))
	is(t, "a\\\nb\\\\\nc", plain(1, `a b\\`), plain(3, "c"))
	is(t, "a\\\\\\\nb\\\\\\\nc", plain(1, `a\\ b\\ c`))
	is(t, "a\nb\\\nc\nd\\\ne\nf", plain(1, "a"), plain(2, "b c"), plain(4, "d e"), plain(6, "f"))
}

func TestSignAloneBetween(t *testing.T) {
	is(t, "x\\\n\\\ny", plain(1, "x y"))
	is(t, "x\\\n\\\n\\\n\\\ny", plain(1, "x y"))
	is(t, "x \\\n \t\\\n\t \\\n y", plain(1, "x y"))
	is(t, "\\\n\\\ny\nz", plain(1, "y"), plain(4, "z"))
	is(t, "x\\\n\\\n\ny", plain(1, "x"), plain(4, "y"))
	is(t, "x\\\n\\\\\ny", plain(1, `x \\`), plain(3, "y"))
	is(t, "x\\\n\\\\\\\ny", plain(1, `x \\ y`))
}

func TestBlanksWhereLinesMeet(t *testing.T) {
	for _, ahead := range texts(" \t", 3) {
		for _, behind := range texts(" \t", 3) {
			is(t, "a"+ahead+"\\\n"+behind+"b", plain(1, "a b"))
			is(t, "\ta"+ahead+"\\\n"+behind+"b\\\n"+behind+"c", tabbed(1, "a b c"))
		}
	}
	is(t, "a  b \t\\\n \tc\t\td", plain(1, "a  b c\t\td"))
	is(t, "a\\\nb \nc", plain(1, "a b"), plain(3, "c"))
	is(t, "a\\\n  \nb", plain(1, "a"), plain(3, "b"))
	is(t, "a\r\\\n\vb", plain(1, "a\r \vb"))
}

func TestTabIsOfTheFirstLineAsItStands(t *testing.T) {
	is(t, "\ta", tabbed(1, "a"))
	is(t, " \ta", plain(1, "a"))
	is(t, "\t a", tabbed(1, "a"))
	is(t, "\t\ta", tabbed(1, "a"))
	is(t, "a\t", plain(1, "a"))
	is(t, "\ta\\\nb\nc", tabbed(1, "a b"), plain(3, "c"))
	is(t, "\ta\\\n\tb\n\tc", tabbed(1, "a b"), tabbed(3, "c"))
	is(t, "a\\\n\tb\nc", plain(1, "a b"), plain(3, "c"))
	is(t, "\t\\\na", tabbed(1, "a"))
	is(t, "\t \t\\\n\\\na", tabbed(1, "a"))
	is(t, "\\\n\ta", plain(1, "a"))
	is(t, " \\\n\ta", plain(1, "a"))
	is(t, "a\n\tb\nc\n\td", plain(1, "a"), tabbed(2, "b"), plain(3, "c"), tabbed(4, "d"))
}

// X2

func TestComments(t *testing.T) {
	is(t, "#")
	is(t, "# a\n#\n #b\n \t# c")
	is(t, "# a\nb", plain(2, "b"))
	is(t, "a # b\nc", plain(1, "a"), plain(2, "c"))
	is(t, "a#b", plain(1, "a"))
	is(t, "a \t#", plain(1, "a"))
	is(t, "a#", plain(1, "a"))
	is(t, "a # b # c", plain(1, "a"))
	is(t, "a ## b", plain(1, "a"))
	is(t, `a \# b`, plain(1, `a \`))
	is(t, `a = "# b"`, plain(1, `a = "`))
	is(t, "$(a#b)", plain(1, "$(a"))
}

func TestCommentsBehindATab(t *testing.T) {
	is(t, "\t#", tabbed(1, "#"))
	is(t, "\t# a", tabbed(1, "# a"))
	is(t, "\ta # b", tabbed(1, "a # b"))
	is(t, "\ta #", tabbed(1, "a #"))
	is(t, "\t#\n#\n\t # c ", tabbed(1, "#"), tabbed(3, "# c"))
	is(t, "\t\\\n# a", tabbed(1, "# a"))
	is(t, "\ta\\\n#b\\\n\t#c\n#d", tabbed(1, "a #b #c"))
}

func TestCommentsAndLinesThatGoOn(t *testing.T) {
	is(t, "# a \\\nb\nc", plain(3, "c"))
	is(t, "a # b \\\nc\nd", plain(1, "a"), plain(3, "d"))
	is(t, "a # b \\\n\tc\n\td", plain(1, "a"), tabbed(3, "d"))
	is(t, "#\\\nb\\\nc\nd", plain(4, "d"))
	is(t, "# a \\\\\nb", plain(2, "b"))
	is(t, "a#\\\nb", plain(1, "a"))
	is(t, "a \\\nb # c\nd", plain(1, "a b"), plain(3, "d"))
	is(t, "a \\\n# b\nc", plain(1, "a"), plain(3, "c"))
	is(t, "a \\\n# b \\\nc\nd", plain(1, "a"), plain(4, "d"))
	is(t, "\\\n\t# a\nb", plain(3, "b"))
	is(t, "a #\\", plain(1, "a"))
	is(t, "#\\")
	is(t, "\ta # b \\\nc # d\ne", tabbed(1, "a # b c # d"), plain(3, "e"))
	is(t, "\t#\\\nb", tabbed(1, "# b"))
	is(t, "\t#\\", tabbed(1, "#"))
}

func TestTrimmed(t *testing.T) {
	is(t, " \t a \t b\t ", plain(1, "a \t b"))
	is(t, "\t \ta \tb \t\n", tabbed(1, "a \tb"))
	is(t, "\ra\r", plain(1, "\ra\r"))
	is(t, "\va\f", plain(1, "\va\f"))
	is(t, "\u00a0a\u2003", plain(1, "\u00a0a\u2003"))
}

func TestWithoutAByteLeftOut(t *testing.T) {
	is(t, " \n\t\n \t \n\t \t\n")
	is(t, " \na\n\t\nb\n\t  \n# c\nd\n ", plain(2, "a"), plain(4, "b"), plain(7, "d"))
	is(t, "\\\n\\\n\na", plain(4, "a"))
	is(t, "\t\\\n \\\n\t\na", plain(4, "a"))
	is(t, "\r\n", plain(1, "\r"))
}

func TestOtherBytes(t *testing.T) {
	for i := range 256 {
		c := string([]byte{byte(i)})
		if strings.Contains(" \t\n#\\", c) {
			continue
		}
		is(t, c, plain(1, c))
		is(t, "a"+c+"\\\n"+c+"b\n\t"+c, plain(1, "a"+c+" "+c+"b"), tabbed(3, c))
		is(t, "a\\"+c+"\nb", plain(1, "a\\"+c), plain(2, "b"))
	}
	is(t, "é\\\n\xff\x80 # \xfe\n\tß # \u2028", plain(1, "é \xff\x80"), tabbed(3, "ß # \u2028"))
	is(t, "a\\\r\nb\r\n", plain(1, "a\\\r"), plain(2, "b\r"))
	is(t, "a\rb", plain(1, "a\rb"))
	is(t, "\uff03a\uff3c\nb", plain(1, "\uff03a\uff3c"), plain(2, "b"))
	is(t, "\x00\ta", plain(1, "\x00\ta"))
}

func TestWordByWord(t *testing.T) {
	for _, s := range every() {
		is(t, s, byWords(s)...)
		if t.Failed() {
			return
		}
	}
}

// X3

func TestMaxLine(t *testing.T) {
	if MaxLine != 1000 {
		t.Errorf("MaxLine = %d", MaxLine)
	}
	x := xs(MaxLine)
	is(t, x, plain(1, x))
	is(t, "a\n"+x+"\nb", plain(1, "a"), plain(2, x), plain(3, "b"))
	isLong(t, x+"x", 1)
	isLong(t, "a\n"+x+"x\nb", 2)
	is(t, "\t"+x, tabbed(1, x))
	isLong(t, "\t"+x+"x", 1)
	isLong(t, xs(1<<20), 1)
	isLong(t, "a\n\n"+strings.Repeat("é", 501), 3)
	is(t, strings.Repeat("é", 500), plain(1, strings.Repeat("é", 500)))
}

func TestMaxLineIsOfText(t *testing.T) {
	x, blanks := xs(MaxLine), strings.Repeat(" \t", MaxLine)
	is(t, blanks+x+blanks, plain(1, x))
	is(t, "\t"+blanks+x+blanks, tabbed(1, x))
	isLong(t, blanks+x+"x"+blanks, 1)
	is(t, blanks)
	is(t, x+"#"+x, plain(1, x))
	is(t, x+" # y", plain(1, x))
	is(t, "#"+x+x)
	is(t, "a # "+x+"\\\n"+x, plain(1, "a"))
	isLong(t, x+"x#", 1)
	isLong(t, "\t"+x+"#", 1)
	is(t, "\t"+x[1:]+"#", tabbed(1, x[1:]+"#"))
	is(t, x+`\`, plain(1, x))
	isLong(t, x+`\\`, 1)
}

func TestMaxLineOfWhatIsPutTogether(t *testing.T) {
	x, y := xs(499), xs(500)
	is(t, x+"\\\n"+y, plain(1, x+" "+y))
	is(t, "#\n"+x+"\\\n"+y+"\\\n\nz", plain(2, x+" "+y), plain(5, "z"))
	isLong(t, y+"\\\n"+y, 1)
	isLong(t, "a\n\n"+y+"\\\n"+y, 3)
	is(t, y+"  \t\\\n"+strings.Repeat(" ", 700)+x+" \t", plain(1, y+" "+x))
	is(t, xs(MaxLine)+"\\\n", plain(1, xs(MaxLine)))
	is(t, xs(MaxLine)+"\\\n\t\\\n#y", plain(1, xs(MaxLine)))
	isLong(t, xs(MaxLine)+"\\\ny", 1)
	isLong(t, "\t"+xs(MaxLine)+"\\\n#", 1)

	var parts []string
	for range 500 {
		parts = append(parts, "x")
	}
	s := strings.Join(parts, "\\\n") // 999 bytes in one
	is(t, s, plain(1, strings.Join(parts, " ")))
	is(t, s+"x\nb", plain(1, strings.Join(parts, " ")+"x"), plain(501, "b"))
	isLong(t, s+"xx", 1)
	isLong(t, s+"\\\nx", 1)
}

func TestMaxLines(t *testing.T) {
	const many = api.MaxLines
	x := strings.Repeat("x\n", many)
	is(t, x[:len(x)-2], ranks(1, many-1)...)
	is(t, x, ranks(1, many)...)
	isLong(t, x+"x", many+1)
	isLong(t, x+"x\n", many+1)
	isLong(t, x+"\ty", many+1)
	isLong(t, x+x+x, many+1)
}

func TestMaxLinesAreThoseThatCount(t *testing.T) {
	const many = api.MaxLines
	x := strings.Repeat("x\n", many)
	is(t, "\n \n\t\n#\n\\\n\n"+x, ranks(7, many)...)
	isLong(t, "\n \n\t\n#\n\\\n\n"+x+"y", many+7)

	half := x[:len(x)/2]
	is(t, half+"\n# c\n\t\n"+half+"\n", append(ranks(1, many/2), ranks(many/2+4, many/2)...)...)
	isLong(t, half+"\n# c\n\t\n"+half+"\ny", many+5)
}

func TestNothingBehindTheLastThatCounts(t *testing.T) {
	const many = api.MaxLines
	x := strings.Repeat("x\n", many)
	for _, rest := range []string{
		"\n", "\n\n\n", " ", "\t", "\t \n", "#", "# " + xs(2*MaxLine) + "\n",
		"\\\n", "\\", "\t\\", "\\\n\\\n\n", "# a \\\nb",
		strings.Repeat(" ", 2*MaxLine), strings.Repeat("#\n", many),
	} {
		is(t, x+rest, ranks(1, many)...)
	}
	isLong(t, x+"\n\n# a\n\n\tb\\\nc", many+5)
	isLong(t, x+"\t\\\n#", many+1)
	isLong(t, x+"\t#", many+1)
	isLong(t, x+"\r", many+1)
}

func TestMaxLinesOfWhatIsPutTogether(t *testing.T) {
	const many = api.MaxLines
	s := strings.Repeat("x\\\ny\n", many)
	var want []Line
	for i := range many {
		want = append(want, plain(2*i+1, "x y"))
	}
	is(t, s, want...)
	isLong(t, s+"z", 2*many+1)
	isLong(t, s+"\n\\\nz", 2*many+2)
}

func TestTheFirstOneThatIsWrong(t *testing.T) {
	const many = api.MaxLines
	x, long := strings.Repeat("x\n", many), xs(MaxLine+1)+"\n"
	isLong(t, "a\n"+long+"b\n"+long, 2)
	isLong(t, long+x+"x", 1)
	isLong(t, x+long+long, many+1)
	isLong(t, x+"x\n"+long, many+1)
	isLong(t, x[2:]+long+"x\n", many)
	isLong(t, "\n#\n"+long+x+x, 3)
	isLong(t, "a\\\nb\n"+long+long, 3)
	isLong(t, long[1:]+long+x, 2)
}

// X4

func TestWhatFollowsOfEachText(t *testing.T) {
	for _, s := range every() {
		last := 0
		l, _, _ := Lex(s)
		for _, x := range l {
			if x.No <= last || x.No > len(text.Lines(s)) {
				t.Fatalf("Lex(%q): number %d behind %d", s, x.No, last)
			}
			last = x.No
			if x.Text == "" || x.Text != text.Trim(x.Text) || strings.Contains(x.Text, "\n") {
				t.Fatalf("Lex(%q) tells %q", s, x.Text)
			}
		}
	}
}

func TestACommentBetween(t *testing.T) {
	all := texts("a\t\\\n#", 4)
	for _, ahead := range all {
		if ahead != "" && (!strings.HasSuffix(ahead, "\n") || isOdd(strings.TrimSuffix(ahead, "\n"))) {
			continue
		}
		for _, behind := range all {
			for _, between := range []string{"# c\n", " \t#\\\\\n", "#c\\\n\tc\n"} {
				want, _, _ := Lex(ahead + behind)
				for i := range want {
					if want[i].No > len(text.Lines(ahead)) {
						want[i].No += len(text.Lines(between))
					}
				}
				is(t, ahead+between+behind, want...)
			}
		}
		if t.Failed() {
			return
		}
	}
}

// P1 to P4

func TestLongTextsEnd(t *testing.T) {
	const many = 1 << 19
	is(t, strings.Repeat("\n", many))
	is(t, strings.Repeat("\\\n", many))
	is(t, strings.Repeat(" \\\n\t", many)+"a", plain(1, "a"))
	is(t, strings.Repeat("#a\\\n", many))
	is(t, strings.Repeat(" ", many)+"\\\n"+strings.Repeat("\t", many))
	is(t, "a\n"+strings.Repeat("#\n", many)+"b", plain(1, "a"), plain(many+2, "b"))
	isLong(t, strings.Repeat("a\\\n", many), 1)
	isLong(t, strings.Repeat(`\\`, many), 1)
	isLong(t, strings.Repeat("a\n", many), api.MaxLines+1)
	isLong(t, strings.Repeat("\n", many)+strings.Repeat("\\\n", many)+xs(MaxLine+1), many+1)
}

func TestListsAnsweredAreNew(t *testing.T) {
	const s = "a\\\nb\n\tc\n"
	first, _, _ := Lex(s)
	first[0], first[1] = plain(9, "other"), plain(10, "other")
	_ = append(first, plain(11, "more"))
	is(t, s, plain(1, "a b"), tabbed(3, "c"))
}
