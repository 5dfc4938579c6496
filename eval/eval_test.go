package eval

import (
	"fmt"
	"reflect"
	"slices"
	"strconv"
	"strings"
	"testing"

	"cooperage/api"
	"cooperage/glob"
	"cooperage/lex"
	"cooperage/parse"
	"cooperage/text"
	"cooperage/vars"
)

// tree is files, told as paths and texts by turns.
func tree(l ...string) []api.File {
	var all []api.File
	for i := 0; i < len(l); i += 2 {
		all = append(all, api.File{Path: l[i], Text: l[i+1]})
	}
	return all
}

// told is rules in words: an open one begins with `%`, a stem stands behind `*`,
// each line of a recipe behind `;`.
func told(rules []Rule) string {
	var all []string
	for _, x := range rules {
		s := strings.Join(x.Targets, " ") + ":"
		if x.Open {
			s = "% " + s
		}
		for _, w := range x.Inputs {
			s += " " + w
		}
		if len(x.Order) > 0 {
			s += " | " + strings.Join(x.Order, " ")
		}
		if x.Stem != "" {
			s += " *" + x.Stem
		}
		for _, line := range x.Recipe {
			s += " ;" + line
		}
		all = append(all, s)
	}
	return strings.Join(all, ", ")
}

// run is what the makefile "m" says, which must be right.
func run(t *testing.T, l ...string) Make {
	t.Helper()
	m, e, at := Run(tree(l...), "m")
	if e != api.OK || at != (Place{}) {
		t.Errorf("Run of %s: %d, %+v", quoted(l), int(e), at)
	}
	return m
}

// is holds the rules of the makefile "m" against what they must be.
func is(t *testing.T, want string, l ...string) {
	t.Helper()
	if got := told(run(t, l...).Rules); got != want {
		t.Errorf("rules of %s: %q, want %q", quoted(l), got, want)
	}
}

// isWrong is is for makefiles that err.
func isWrong(t *testing.T, e api.Errno, path string, no int, l ...string) {
	t.Helper()
	m, gotErr, at := Run(tree(l...), "m")
	if gotErr != e || at != (Place{path, no}) {
		t.Errorf("Run of %s: %d, %+v, want %d, %s, %d", quoted(l), int(gotErr), at, int(e), path, no)
	}
	if !reflect.DeepEqual(m, Make{}) {
		t.Errorf("Run of %s tells more than its error: %+v", quoted(l), m)
	}
}

// quoted tells texts for a failure; of a long one the ends and the size.
func quoted(l []string) string {
	var all []string
	for _, s := range l {
		q := strconv.Quote(s)
		if len(s) > 400 {
			q = fmt.Sprintf("%q..%q (%d bytes)", s[:60], s[len(s)-60:], len(s))
		}
		all = append(all, q)
	}
	return strings.Join(all, ", ")
}

func times(n int, s string) string { return strings.Repeat(s, n) }

// names tells n words of two bytes, no two of them the same.
func names(n int) []string {
	var all []string
	for i := range n {
		all = append(all, string([]byte{'a' + byte(i/26), 'a' + byte(i%26)}))
	}
	return all
}

func TestExamples(t *testing.T) {
	m := run(t, "m", "o = a.o b.o\nall: $(o)\n$(o): %.o: %.c\n\tcc\n.PHONY: all")
	want := Make{
		Vars: vars.Vars{L: []vars.Var{{Name: "o", Text: "a.o b.o"}}},
		Rules: []Rule{
			{Targets: []string{"all"}, Inputs: []string{"a.o", "b.o"}},
			{Targets: []string{"a.o"}, Stem: "a", Inputs: []string{"a.c"}, Recipe: []string{"cc"}},
			{Targets: []string{"b.o"}, Stem: "b", Inputs: []string{"b.c"}, Recipe: []string{"cc"}},
		},
		Phony: []string{"all"},
		First: "all",
		Read:  []string{"m"},
	}
	if !reflect.DeepEqual(m, want) {
		t.Errorf("%+v", m)
	}
	if MaxNodes != 1000 {
		t.Error(MaxNodes)
	}
}

// E1

func TestWhatIsRead(t *testing.T) {
	for _, c := range []struct {
		want string
		l    []string
	}{
		{"m", []string{"m", ""}},
		{"m", []string{"m", "# nothing\n\n"}},
		{"m", []string{"f", "x", "m", "a: b\n", "g", ""}},
		{"m f g", []string{"m", "include f g", "f", "", "g", ""}},
		{"m g f", []string{"m", "include g\ninclude f", "f", "", "g", ""}},
		{"m f f g f", []string{"m", "include f f\n-include g f", "f", "", "g", ""}},
		{"m f h g h", []string{"m", "include f\ninclude g", "f", "include h", "g", "include h", "h", ""}},
		{"m f g h", []string{"m", "include f h", "f", "include g", "g", "", "h", ""}},
		{"m a/b /c", []string{"m", "include a/b /c", "a/b", "", "/c", ""}},
	} {
		if got := strings.Join(run(t, c.l...).Read, " "); got != c.want {
			t.Errorf("read of %s: %s, want %s", quoted(c.l), got, c.want)
		}
	}
}

func TestAFileOfAnyPath(t *testing.T) {
	for _, path := range []string{"", " ", "a b", "../m", "\x00\xff", times(1000, "x")} {
		files := []api.File{{Path: "x", Text: "wrong"}, {Path: path, Text: "a: b"}}
		m, e, at := Run(files, path)
		if e != api.OK || at != (Place{}) || !slices.Equal(m.Read, []string{path}) || told(m.Rules) != "a: b" {
			t.Errorf("Run of %q: %+v, %d, %+v", path, m, int(e), at)
		}
		m, e, at = Run(files[:1], path)
		if e != api.ErrNone || at != (Place{Path: path}) || !reflect.DeepEqual(m, Make{}) {
			t.Errorf("Run of %q, that there is not: %+v, %d, %+v", path, m, int(e), at)
		}
	}
}

func TestAPathThatThereIsNoFileOf(t *testing.T) {
	isWrong(t, api.ErrNone, "m", 0)
	isWrong(t, api.ErrNone, "m", 0, "M", "", "m/", "", "mm", "", "", "")
	isWrong(t, api.ErrNone, "f", 0, "m", "a: b\ninclude f\nwrong: %.o: x")
	isWrong(t, api.ErrNone, "g", 0, "m", "include f", "f", "\n\ninclude h g i", "h", "")
}

func TestOfOnePathTheFirstFileCounts(t *testing.T) {
	is(t, "a:, b:", "m", "a:\ninclude f", "m", "wrong", "f", "b:", "f", "c:", "m", "d:")
	isWrong(t, api.ErrForm, "m", 1, "m", "wrong", "m", "a:")
	isWrong(t, api.ErrForm, "f", 1, "m", "include f", "f", "wrong", "f", "a:")
}

func TestAFileThatIsIncludedTwiceIsDoneTwice(t *testing.T) {
	is(t, "t1: ;run, t11: ;run", "m", "v := 1\ninclude f f", "f", "t$(v):\n\trun\nv := $(v)1")
	is(t, "a:, b:", "m", "include f\nv = 1\ninclude f", "f", "ifdef v\nb:\nelse\na:\nendif")
	isWrong(t, api.ErrForm, "f", 1, "m", "v = a\ninclude f\nv = $\ninclude f", "f", "$(v):")
}

// chain is n files of which each one includes the next one; the first is "m".
func chain(n int, last string) []string {
	l := []string{"m", "include f1"}
	for i := 1; i < n-1; i++ {
		l = append(l, fmt.Sprint("f", i), fmt.Sprint("# more\ninclude f", i+1))
	}
	return append(l, fmt.Sprint("f", n-1), last)
}

func TestFilesWithinOneAnother(t *testing.T) {
	is(t, "a:", chain(20, "a:")...)
	if got := run(t, chain(20, "a:")...).Read; len(got) != 20 || got[19] != "f19" {
		t.Error(got)
	}
	isWrong(t, api.ErrDeep, "f20", 0, chain(21, "a:")...)
	isWrong(t, api.ErrDeep, "f20", 0, chain(25, "a:")...)
	is(t, "a:, b:", append(chain(19, "include g\nb:"), "g", "a:")...)
}

func TestAFileThatIncludesItself(t *testing.T) {
	isWrong(t, api.ErrDeep, "m", 0, "m", "include m")
	isWrong(t, api.ErrDeep, "m", 0, "m", "-include m m")
	isWrong(t, api.ErrDeep, "m", 0, "m", "a: b\ninclude f", "f", "include m") // m is read in even depths
	isWrong(t, api.ErrDeep, "f", 0, "m", "include f", "f", "include f")
	is(t, "a:, b:", "m", "ifndef v\nv = 1\na:\ninclude m\nb:\nendif")
}

func TestAFileThatIsNotThereIsToldAheadOfOneTooDeep(t *testing.T) {
	isWrong(t, api.ErrNone, "none", 0, chain(20, "include none")...)
	is(t, "a:", chain(20, "-include none\na:")...)
	isWrong(t, api.ErrDeep, "m", 0, chain(20, "-include none m")...)
}

func TestReadFiles(t *testing.T) {
	m := run(t, "m", "include "+times(199, "f "), "f", "")
	if len(m.Read) != 200 || m.Read[0] != "m" || m.Read[199] != "f" {
		t.Error(m.Read)
	}
	isWrong(t, api.ErrLong, "f", 0, "m", "include "+times(200, "f "), "f", "")
	isWrong(t, api.ErrLong, "f", 0, "m", "-include "+times(200, "f "), "f", "")
	// ten times itself and nine others, with a last one that is one too many, or none
	ten := []string{"m", times(19, "include f\n"), "f", "include " + times(9, "g "), "g", "v += x"}
	if m := run(t, ten...); len(m.Read) != 191 || !slices.Equal(m.Read[:13], strings.Fields("m f g g g g g g g g g f g")) {
		t.Error(m.Read)
	}
	isWrong(t, api.ErrLong, "g", 0, append([]string{"m", times(20, "include f\n")}, ten[2:]...)...)
	isWrong(t, api.ErrLong, "f", 0, append([]string{"m", times(199, "include g\n") + "include f"}, ten[2:]...)...)
}

func TestOneFileTooManyAndOtherErrors(t *testing.T) {
	full := "include " + times(199, "f ") + "\n"
	isWrong(t, api.ErrNone, "none", 0, "m", full+"include none", "f", "")
	is(t, "a:", "m", full+"-include none\na:", "f", "")
	isWrong(t, api.ErrLong, "g", 0, "m", full+"include g", "f", "", "g", "wrong")
	isWrong(t, api.ErrForm, "m", 2, "m", full+"include $", "f", "")
	// one that is read within 20 others, and behind 200
	deep := chain(20, "include f20")
	deep = append(deep, "f20", "", "e", "")
	deep[1] = "include " + times(180, "e ") + "f1"
	isWrong(t, api.ErrDeep, "f20", 0, deep...)
	deep[1] = "include " + times(181, "e ") + "f1"
	isWrong(t, api.ErrLong, "f19", 0, deep...)
}

// busy is a makefile of n nodes, and then others, the first of which stands in its
// line n - 899; more files are told behind.
func busy(n int, more string, files ...string) []string {
	return append([]string{"m", "include" + times(9, " k") + "\n" + times(n-901, "a = 1\n") + more, "k", times(100, "a = 1\n")}, files...)
}

func TestNodes(t *testing.T) {
	for n := 998; n <= 1000; n++ {
		run(t, busy(n, "")...)
	}
	for _, last := range []string{
		"a = 1", "a := 1", "a ?= 1", "a += 1", "a: b", "a: b\n\trun\n\trun\n\trun", "a.o b.o: %.o: %.c", "%.o: %.c", "$(none): x", ".PHONY: a", "include e", "-include e none", "include $(none)",
		"ifdef a\nendif", "ifdef none\nendif", "ifndef a\nelse\nendif", "ifeq (a,a)\nelse\nendif", "ifneq (a,a)\nelse\nendif",
	} {
		run(t, busy(999, last, "e", "# nothing")...)
		run(t, busy(999, "# a note\n"+last+"\n# more", "e", "")...)
		isWrong(t, api.ErrLong, "m", 101, busy(1000, last, "e", "")...)
		isWrong(t, api.ErrLong, "m", 103, busy(1000, "# a note\n\n"+last, "e", "")...)
		both := "b = \\\n1\n" + last
		isWrong(t, api.ErrLong, "m", 102, busy(999, both, "e", "")...)
	}
}

func TestOneNodeTooManyAndItsOwnErrors(t *testing.T) {
	for _, c := range []struct {
		last string
		e    api.Errno
		at   Place
	}{
		{"x := $", api.ErrForm, Place{"m", 100}},
		{"a: $(word 0,x)", api.ErrArg, Place{"m", 100}},
		{"a//b: c", api.ErrForm, Place{"m", 100}},
		{"a: b: c", api.ErrForm, Place{"m", 100}},
		{"ifeq ($,a)\nendif", api.ErrForm, Place{"m", 100}},
		{"include $", api.ErrForm, Place{"m", 100}},
		{"include none", api.ErrNone, Place{"none", 0}},
		{"include w", api.ErrForm, Place{"w", 2}},
		{"include m", api.ErrLong, Place{"m", 1}},
	} {
		files := []string{"w", "\nwrong"}
		isWrong(t, c.e, c.at.Path, c.at.No, busy(999, c.last, files...)...)
		isWrong(t, api.ErrLong, "m", 101, busy(1000, c.last, files...)...)
	}
	isWrong(t, api.ErrForm, "m", 102, busy(1000, "a = 1\nwrong")...) // no node is done, then
}

func TestNodesThatDoNotCount(t *testing.T) {
	// what is left out, with conditionals of its own, Else and End: 1000 are done in all
	out := "x = 1\nx: y\n\trun\ninclude none\nifdef none\nx = 1\nelse\nx = 1\nendif\nx = 1\n"
	for _, c := range []struct {
		done int // of the following text
		s    string
	}{
		{1, "ifdef none\n" + out + "endif\n"},
		{1, "ifdef a\nelse\n" + out + "endif\n"},
		{2, "ifdef none\n" + out + "else\na = 1\nendif\n"},
		{2, "ifdef a\na = 1\nelse\n" + out + "endif\n"},
		{3, "ifdef a\nifdef none\n" + out + "else\na = 1\nendif\nendif\n"},
		{1, "ifdef none\nelse\nendif\n"},
		{4, "ifdef a\nifdef a\nifdef a\nifdef a\nendif\nendif\nendif\nendif\n"},
	} {
		no := 1000 - c.done - 899 + strings.Count(c.s, "\n")
		run(t, busy(1000-c.done, c.s)...)
		isWrong(t, api.ErrLong, "m", no, busy(1000-c.done, c.s+"a = 1")...)
		isWrong(t, api.ErrLong, "m", no+1, busy(1000-c.done, "# a note\n"+c.s+"a = 1")...)
	}
	isWrong(t, api.ErrLong, "m", 101, busy(999, "ifdef a\na = 1\nendif")...)
	isWrong(t, api.ErrLong, "m", 102, busy(999, "ifdef none\nelse\na = 1\nendif")...)
}

func TestNodesOfAllFilesCount(t *testing.T) {
	run(t, busy(997, "include f\na = 1", "f", "a = 1")...)
	run(t, busy(997, "include f", "f", "a = 1\na = 1")...)
	isWrong(t, api.ErrLong, "f", 2, busy(998, "include f", "f", "a = 1\na = 1")...)
	isWrong(t, api.ErrLong, "f", 3, busy(998, "include f", "f", "a = 1\n\na = 1")...)
	isWrong(t, api.ErrLong, "m", 100, busy(998, "include f\na = 1", "f", "a = 1")...)
	isWrong(t, api.ErrLong, "f", 1, busy(999, "include f", "f", "a = 1")...)
	isWrong(t, api.ErrLong, "f", 1, busy(998, "-include none f f", "f", "a = 1")...)
	isWrong(t, api.ErrLong, "g", 1, busy(998, "include f", "f", "include g", "g", "a = 1")...)
	run(t, busy(998, "include f", "f", "include g", "g", "# a = 1")...)
}

// TestAllOfAFileIsReadAheadOfDoing: an error of lines or nodes is told, though a
// node ahead of that line errs too; and lines err ahead of nodes.
func TestAllOfAFileIsReadAheadOfDoing(t *testing.T) {
	long := times(1001, "x")
	for _, ahead := range []string{"", "a = 1", "a := $", "a//b: c", "include none", "ifeq ($,$)\nendif", "a: $(word 0,x)", "include m"} {
		no := strings.Count(ahead, "\n") + 2
		isWrong(t, api.ErrLong, "m", no, "m", ahead+"\n"+long)
		isWrong(t, api.ErrForm, "m", no, "m", ahead+"\nwrong")
		isWrong(t, api.ErrForm, "m", no, "m", ahead+"\nendif")
		isWrong(t, api.ErrShort, "m", 0, "m", ahead+"\nifdef x")
		isWrong(t, api.ErrLong, "f", no, "m", "a:\n\ninclude f", "f", ahead+"\n"+long)
		isWrong(t, api.ErrForm, "f", no, "m", "a:\n\ninclude f", "f", ahead+"\nwrong")
		isWrong(t, api.ErrShort, "f", 0, "m", "a:\n\ninclude f", "f", ahead+"\nifdef x")
	}
	isWrong(t, api.ErrLong, "m", 2, "m", "wrong\n"+long)
	isWrong(t, api.ErrLong, "m", 302, "m", "\nwrong\n"+times(300, "a = 1\n"))
	isWrong(t, api.ErrForm, "f", 1, "m", "include f\na := $", "f", "wrong")
	isWrong(t, api.ErrForm, "m", 1, "m", "a := $\ninclude f", "f", times(21, "ifdef x\n"))
}

func TestErrorsOfLinesAndOfNodes(t *testing.T) {
	for _, c := range []struct {
		s  string
		e  api.Errno
		no int
	}{
		{"a:\n" + times(1001, "x"), api.ErrLong, 2},
		{times(301, "a = 1\n"), api.ErrLong, 301},
		{"\n\nwrong\n", api.ErrForm, 3},
		{"\n\ttab", api.ErrForm, 2},
		{"a = \\\n1\nelse", api.ErrForm, 3},
		{"ifdef a\nelse\nelse\nendif", api.ErrForm, 3},
		{"ifdef none\nwrong\nendif", api.ErrForm, 2}, // though it is left out
		{times(21, "ifdef x\n") + times(21, "endif\n"), api.ErrDeep, 21},
		{"ifdef x", api.ErrShort, 0},
	} {
		isWrong(t, c.e, "m", c.no, "m", c.s)
		isWrong(t, c.e, "f", c.no, "m", "\n\n\ninclude f", "f", c.s)
		isWrong(t, c.e, "f", c.no, "m", "-include none f", "f", c.s)
		isWrong(t, c.e, "g", c.no, "m", "include f\n", "f", "a:\ninclude g", "g", c.s)
	}
	is(t, "a: ;tab", "m", times(20, "ifndef x\n")+"a:\n\ttab\n"+times(20, "endif\n"))
	run(t, "m", times(300, "a = 1\n")+"# a note\n")
}

// TestErrorsOfTexts expands what errs in each place where a text is expanded.
func TestErrorsOfTexts(t *testing.T) {
	ahead := "r = $(r)\ns :=\nl := " + times(45, "a ") + "\nw := " + times(900, "x") + "\n"
	for _, c := range []struct {
		s string
		e api.Errno
	}{
		{"$(word 0,x)", api.ErrArg},
		{"$", api.ErrForm},
		{"$(w)$(w)$(w)$(w)$(w)", api.ErrLong},
		{"$(foreach i,$(l),$(foreach j,$(l),$(none)))", api.ErrFuel},
		{"$(r)", api.ErrDeep},
	} {
		for _, line := range []string{
			"x := %", "x := a%", "s += %", "ifeq (%,a)\nendif", "ifeq (a,%)\nendif", "ifneq (%,a)\nendif", "ifneq (a,%)\nelse\nendif",
			"include %", "-include %", "-include none %", "a: %", "a: b %", "a: | %", "a: b | c %", "a: %: b", "%: b", "a %: b", "%: %: %", "$(none): %", "$(none): | %",
		} {
			s := ahead + "b:\n" + strings.ReplaceAll(line, "%", c.s) + "\nz:"
			isWrong(t, c.e, "m", 6, "m", s)
			isWrong(t, c.e, "f", 6, "m", "a:\ninclude f", "f", s)
			is(t, "b:, z:", "m", ahead+"b:\nifdef none\n"+strings.ReplaceAll(line, "%", c.s)+"\nendif\nz:")
		}
		for _, line := range []string{"x = %", "x += %", "x ?= %", "s ?= %", "$(none): %: b"} { // no text is expanded there
			is(t, "z:", "m", ahead+strings.ReplaceAll(line, "%", c.s)+"\nz:")
		}
	}
}

func TestTheNumberIsOfTheNodesLine(t *testing.T) {
	isWrong(t, api.ErrForm, "m", 4, "m", "# a note\n\n\na b: c \\\nd \\\n$\n\trun\n")
	isWrong(t, api.ErrForm, "m", 5, "m", "a:\n\trun\n\trun\n\na//b:\n\trun")
	isWrong(t, api.ErrForm, "m", 6, "m", "include f\nifdef v\ninclude f\n\na:\nb//c:\nendif", "f", "v = 1\n\n\n\n")
	isWrong(t, api.ErrForm, "f", 2, "m", "\n\n\n\ninclude g\ninclude f", "f", "a:\nb//c:", "g", "d:")
	isWrong(t, api.ErrForm, "m", 3, "m", "include f\n\na//b:", "f", "a = 1\n\n\n\n\nb = 1")
}

// E2

// isTaken holds against what it must be whether a conditional's first part is done.
func isTaken(t *testing.T, want bool, cond string) {
	t.Helper()
	const ahead = "v = x\ne =\nn = $(none)\ns := $(none)\nb := $(none) x\nw := x\n"
	first, second := "", "no:, "
	if want {
		first, second = "yes:, ", ""
	}
	is(t, first+"end:", "m", ahead+cond+"\nyes:\nendif\nend:")
	is(t, first+second+"end:", "m", ahead+cond+"\nyes:\nelse\nno:\nendif\nend:")
	is(t, second+"end:", "m", ahead+cond+"\nelse\nno:\nendif\nend:")
	is(t, "end:", "m", ahead+cond+"\nelse\nendif\nend:")
	is(t, "end:", "m", ahead+cond+"\nendif\nend:")
}

func TestConditionals(t *testing.T) {
	for s, want := range map[string]bool{
		"(x,x)": true, "(x,y)": false, "(x,X)": false, "(,)": true, "(x,)": false, "(,x)": false, "( x ,\tx )": true, "(a b,a b)": true, "(a  b,a b)": false,
		"($(v),x)": true, "(x,$(v))": true, "($(v),$(w))": true, "($(v),$(e))": false, "($(e),$(none))": true, "($(e),)": true, "($(n),$(s))": true, "(${v}$(e),$(none)x)": true,
		"($(b),x)": false, "($(b), $(none) x)": true, "( $(b),$(b))": true, "($$v,$(v))": false, "($$v,$$v)": true, "($(if a,b,c),b)": true, "(x,x,x)": false, "($x,$y)": true,
	} {
		isTaken(t, want, "ifeq "+s)
		isTaken(t, !want, "ifneq "+s)
	}
	for name, want := range map[string]bool{"v": true, "e": false, "n": true, "s": false, "b": true, "w": true, "none": false, "x": false, "V": false, "vv": false} {
		isTaken(t, want, "ifdef "+name)
		isTaken(t, !want, "ifndef "+name)
	}
}

func TestConditionalsWithinOneAnother(t *testing.T) {
	part := func(is bool, s string) string {
		if is {
			return s
		}
		return ""
	}
	for bits := range 16 {
		var on [4]bool
		var cond [4]string
		for i := range on {
			on[i] = bits>>i&1 == 1
			cond[i] = []string{"ifdef none", "ifeq (a,a)"}[bits>>i&1] + "\n"
		}
		s := "0:\n" + cond[0] + "1:\n" + cond[1] + "2:\n" + cond[2] + "3:\nendif\n4:\nelse\n5:\nendif\n6:\nelse\n7:\n" + cond[3] + "8:\nelse\n9:\nendif\n10:\nendif\n11:"
		want := "0:, "
		if on[0] {
			want += "1:, "
			if on[1] {
				want += "2:, " + part(on[2], "3:, ") + "4:, "
			} else {
				want += "5:, "
			}
			want += "6:, "
		} else {
			want += "7:, " + part(on[3], "8:, ") + part(!on[3], "9:, ") + "10:, "
		}
		is(t, want+"11:", "m", s)
	}
}

func TestConditionsAreAskedWhenTheyAreDone(t *testing.T) {
	is(t, "b:, c:", "m", "ifdef v\na:\nelse\nv = 1\nb:\nendif\nifdef v\nc:\nendif")
	is(t, "a:, c:", "m", "v = 1\nifdef v\nv =\na:\nelse\nb:\nendif\nifndef v\nc:\nendif")
	is(t, "a:", "m", "include f\nifeq ($(v),1)\na:\nendif", "f", "v := 1")
	is(t, "a:", "m", "v = 1\ninclude f", "f", "ifdef v\na:\nendif")
	is(t, "b: ;run, c:", "m", "ifdef v\na:\n\trun\nelse\nb:\n\trun\nendif\nc:")
}

func TestWhatIsLeftOutDoesNotMatter(t *testing.T) {
	for _, s := range []string{"a := $", "a//b:", "a: b: c", "%.o a:", "include none", "include m", "include wrong", "ifeq ($,$)\nelse\na//b:\nendif", ".PHONY: a//b", "a: $(word 0,x)", "v = 1\na: b\n.PHONY: a\ninclude f"} {
		for _, all := range []string{"ifdef none\n%\nendif\nz:", "ifndef none\nelse\n%\nendif\nz:", "ifdef none\nifndef none\n%\nelse\n%\nendif\n%\nendif\nz:", "ifeq (a,b)\n%\nelse\nz:\nendif"} {
			m := run(t, "m", strings.ReplaceAll(all, "%", s), "wrong", "wrong", "f", "")
			if want := (Make{Rules: []Rule{{Targets: []string{"z"}}}, First: "z", Read: []string{"m"}}); !reflect.DeepEqual(m, want) {
				t.Errorf("%s in %s: %+v", s, all, m)
			}
		}
	}
}

// E3

func TestAssignments(t *testing.T) {
	m := run(t, "m", "c = $(b)\nb := $(c)1\nb += $(d)\nd ?= x\nd ?= y\ne += $(d)\ne += z\na = $\nb += $(d) $(e)\nB =")
	want := []vars.Var{{Name: "B"}, {Name: "a", Text: "$"}, {Name: "b", Text: "1  x x z", Simple: true}, {Name: "c", Text: "$(b)"}, {Name: "d", Text: "x"}, {Name: "e", Text: "$(d) z"}}
	if !slices.Equal(m.Vars.L, want) || len(m.Rules)+len(m.Phony) > 0 || m.First != "" {
		t.Errorf("%+v", m)
	}
	m = run(t, "m", "v = 1\ninclude f\nw := $(v)", "f", "v := $(v)2\ninclude g g", "g", "v += $(v)")
	want = []vars.Var{{Name: "v", Text: "12 12 12 12", Simple: true}, {Name: "w", Text: "12 12 12 12", Simple: true}}
	if !slices.Equal(m.Vars.L, want) {
		t.Errorf("%+v", m)
	}
	isWrong(t, api.ErrForm, "m", 2, "m", "v := 1\nv += $")
	isWrong(t, api.ErrForm, "m", 3, "m", "v = $\nv += $\nw := $(v)")
}

func TestRulesAreExpandedWhereTheyStand(t *testing.T) {
	is(t, "a: 1, b: 2, 2.o: 2.c 2 *2", "m", "v = $(w)\nw = 1\na: $(v)\nw = 2\nb: $(v)\np = %.o\n$(v).o: $(none) $(p) : %.c $(v)\nw = 3\np = 3")
}

func TestIncludes(t *testing.T) {
	for _, c := range []struct {
		want, s string
	}{
		{"m", "include $(none)"},
		{"m", "-include $(none) $(none)"},
		{"m f", "include f"},
		{"m f g", "include f\tg"},
		{"m f g f", "include f g f"},
		{"m f g", "l = f g\ninclude $(l)"},
		{"m f g", "l = g\ninclude f $(l:.c=)"},
		{"m f.c", "include $(patsubst %.o,%.c,f.o)"},
		{"m", "-include none"},
		{"m f g", "-include none f none no g none"},
		{"m g", "l = none g\n-include $(l)"},
		{"m f", "-include none\ninclude f"},
		{"m", "-include a//b .. f/"},
		{"m", "-include " + times(300, "x ")}, // the 200 are of rules
	} {
		if got := strings.Join(run(t, "m", c.s, "f", "", "g", "", "f.c", "").Read, " "); got != c.want {
			t.Errorf("read of %q: %s, want %s", c.s, got, c.want)
		}
	}
	isWrong(t, api.ErrNone, "a//b", 0, "m", "include a//b")
	isWrong(t, api.ErrNone, "%", 0, "m", "include %")
	isWrong(t, api.ErrNone, "none", 0, "m", "include f none no\nw = $", "f", "")
	isWrong(t, api.ErrNone, "none", 0, "m", "-include no\n-include f", "f", "include none")
	isWrong(t, api.ErrForm, "f", 1, "m", "-include f none", "f", "wrong")
	isWrong(t, api.ErrForm, "f", 1, "m", "include f none", "f", "a: $")
	isWrong(t, api.ErrForm, "m", 1, "m", "include f none $", "f", "wrong") // ahead of any word
}

func TestWordsOfAnIncludeAreExpandedAheadOfReading(t *testing.T) {
	m := run(t, "m", "l = f g\ninclude $(l)\ninclude $(l)", "f", "l = h", "g", "", "h", "")
	if got := strings.Join(m.Read, " "); got != "m f g h" {
		t.Error(got)
	}
	is(t, "a:, b:", "m", "include f g", "f", "a:\nv = b", "g", "$(v):")
}

// E4

func TestWordsOfARule(t *testing.T) {
	for _, c := range []struct{ want, s string }{
		{"a: b", "a: b"},
		{"a:", "a:"},
		{"a: | b", "a: | b"},
		{"a b: c d | e f", "a b: c d | e f"},
		{"a b: c d | e f", "a b a : c\td c | e c f\te d "},
		{"a: a | b", "a a a: a a | a b b a"}, // a target may be its own input
		{"a:", "a: | $(none)"},
		{"a: b", "a: b b | b b"},
		{"a b: b c | d", "v = a b\n$(v) a: b c b | d c"},
		{"x.o y.o: x.c y.c | d", "w = x y\n$(w:=.o): $(w:=.c) | d $(w:=.c)"},
		{"a: b c d", "a: b $(none) c $(none)$(none) d"},
		{"a: bc", "a: b$(none)c"},
		{"a: b | c", "a: b | c\n$(none): d"},
	} {
		is(t, c.want, "m", c.s)
	}
}

func TestARuleIsWholeInEachField(t *testing.T) {
	m := run(t, "m", "a b: c d | e\n\trun $@\n\n\tmore # no note\n%.o x/%: %.c k | %.d\n\tcc\ny/z.o .o: %.o: %.c | %.d k\n\tld $*\n")
	want := []Rule{
		{Targets: []string{"a", "b"}, Inputs: []string{"c", "d"}, Order: []string{"e"}, Recipe: []string{"run $@", "more # no note"}},
		{Targets: []string{"%.o", "x/%"}, Open: true, Inputs: []string{"%.c", "k"}, Order: []string{"%.d"}, Recipe: []string{"cc"}},
		{Targets: []string{"y/z.o"}, Stem: "y/z", Inputs: []string{"y/z.c"}, Order: []string{"y/z.d", "k"}, Recipe: []string{"ld $*"}},
		{Targets: []string{".o"}, Inputs: []string{".c"}, Order: []string{".d", "k"}, Recipe: []string{"ld $*"}},
	}
	if !reflect.DeepEqual(m.Rules, want) {
		t.Errorf("%+v", m.Rules)
	}
}

func TestWordsMayBe200(t *testing.T) {
	all := names(200)
	for _, w := range [][]string{all, strings.Fields(times(200, "a ")), append(slices.Clone(all[:100]), all[:100]...)} {
		s, more := strings.Join(w, " "), strings.Join(append(slices.Clone(w), w[0]), " ")
		want := strings.Join(once(w, seen{}), " ")
		is(t, want+": b", "m", s+": b")
		is(t, "z: "+want, "m", "z: "+s)
		is(t, "z: | "+want, "m", "z: | "+s)
		is(t, "z: zz | "+want, "m", "v = "+s+"\nz: zz | $(v) $(none)")
		isWrong(t, api.ErrLong, "m", 1, "m", more+": b")
		isWrong(t, api.ErrLong, "m", 1, "m", "z: "+more)
		isWrong(t, api.ErrLong, "m", 1, "m", "z: | "+more)
		isWrong(t, api.ErrLong, "m", 2, "m", "v = "+s+"\nz: "+s+" | $(v) $(none)a")
		isWrong(t, api.ErrLong, "m", 2, "m", "v = "+s+"\n.PHONY: $(v) a")
		isWrong(t, api.ErrLong, "m", 2, "m", "v = "+s+"\n$(none): $(v) a")
		isWrong(t, api.ErrLong, "m", 2, "m", "v = "+s+"\nz.o: %.o: $(v) a")
		is(t, "z.o: "+want+" *z", "m", "v = "+s+"\nz.o: %.o: $(v) | $(v)")
	}
}

// TestTheFirstErrorOfARule has pairs of errors, the first of which is told: those of
// texts, and those of counts, in the order of Targets, Inputs, Order, Pattern.
func TestTheFirstErrorOfARule(t *testing.T) {
	many := times(201, "x ")
	for _, c := range []struct {
		s string
		e api.Errno
	}{
		{"$(v): $(word 0,x)", api.ErrLong},
		{"$(v): | $(word 0,x)", api.ErrLong},
		{"$(v): $(word 0,x): b", api.ErrLong},
		{"$(word 0,x): $(v) | $(v)", api.ErrArg},
		{"$(word 0,x): $(v): $(v)", api.ErrArg},
		{"a: $(word 0,x) | $(v)", api.ErrArg},
		{"a: $(v) | $(word 0,x)", api.ErrLong},
		{"a: $(word 0,x): $(v)", api.ErrLong},
		{"a: $(word 0,x): b | $(v)", api.ErrLong},
		{"a: $(v): b | $(word 0,x)", api.ErrArg},
		{"a: $(word 0,x): b | $", api.ErrForm},
		{"a: $(word 0,x): $ | b", api.ErrForm},
		{"$: $(word 0,x): b", api.ErrForm},
		{"a//b: $(v)", api.ErrLong},
		{"a//b: | $(v)", api.ErrLong},
		{"a %: $(word 0,x)", api.ErrArg},
		{"a//b: $(word 0,x): c", api.ErrArg},
		{"a: b//c | $(v)", api.ErrLong},
		{".PHONY: a//b | $(v)", api.ErrLong},
		{"a b.o: x: $(v)", api.ErrLong},
	} {
		isWrong(t, c.e, "m", 2, "m", "v = "+many+"\n"+c.s)
	}
}

func TestNoTarget(t *testing.T) {
	for _, s := range []string{
		"$(none): x", "$(none)$(none):", "$(none) $(none): x | y", "$(none): x\n\trun\n\trun", "$(none): x//y", "$(none): x | y//z", "$(none): %", "$(none): %% ..", "e =\n$(e) :",
		"$(none): %.o: %.c", "$(none): x: y", "$(none): $: y", "$(none): $(word 0,x): y", "$(none): $(none): x", "$(none): %%: x//y",
	} {
		if m := run(t, "m", s); len(m.Rules)+len(m.Phony) > 0 || m.First != "" {
			t.Errorf("%q: %+v", s, m)
		}
		is(t, "a:, b:", "m", "a:\n"+s+"\nb:")
	}
	isWrong(t, api.ErrForm, "m", 1, "m", "$(none): $")
	isWrong(t, api.ErrForm, "m", 1, "m", "$(none): | $")
}

func TestRulesByAPattern(t *testing.T) {
	for _, c := range []struct{ want, s string }{
		{"a.o: a.c *a", "a.o: %.o: %.c"},
		{"a.o: *a", "a.o: %.o:"},
		{"a.o: | a.d *a ;run %", "a.o: %.o: | %.d\n\trun %"},
		{"a.o: a.c *a ;r ;s, b.o: b.c *b ;r ;s", "a.o b.o a.o: %.o: %.c\n\tr\n\ts"},
		{"b.o: b.c *b, a.o: a.c *a", "v = b.o a.o\np = %\n$(v): $(none) $(p).o $(none) : $(p).c"},
		{"x/a.o: x/a.c *x/a", "x/a.o: %.o: %.c"},
		{"x/a.o: y/a.c *a", "x/a.o: x/%.o: y/%.c"},
		{"a.o: xa.oy *a.o", "a.o: %: x%y"},
		{".o: .c x", ".o: %.o: %.c x"},
		{"ab: b", "ab: a%b: %b"},
		{"a.o: a.c b.c | a.h *a, b.o: b.c a.c | b.h a.h *b", "a.o b.o: %.o: %.c a.c b.c | %.h a.c b.c a.h"},
		{"a.o: a *a", "a.o: %.o: % a % | % a"},
		{"a.o: x | a *a, x.o: x *x", "a.o x.o: %.o: x | % x"},
		{"a.o: x | a *a", "a.o: %.o: x | % a"},
		{"z: b, a.o: a.o *a, y: c", "z: b\na.o: %.o: %.o\ny: c"},
		{"a: b *a", "a: %: b"},
	} {
		is(t, c.want, "m", c.s)
	}
}

func TestPatternsThatAreNotRight(t *testing.T) {
	for _, s := range []string{
		"a.o: a.o: x", "a.o: x: y", "a.o: $(none): x", "a.o: $(none) $(none): x", "a.o: %%: x", "a.o: %.%: x", "a: %%a: x", // none
		"a.o: %.c: x", "a.o b.c: %.o: x", "b.c a.o: %.o: x", "a.o b.o c: %.o: x", "aa: aa%a: x", "a.o: % .o: x", "a.o: %.o %.o: x", "a.o: %.O: x", // not of some target
	} {
		isWrong(t, api.ErrForm, "m", 3, "m", "z:\n\n"+s)
	}
}

func TestTargetsThatArePatterns(t *testing.T) {
	for _, c := range []struct{ want, s string }{
		{"% %.o: %.c k | d", "%.o: %.c k | d"},
		{"% %:", "%:"},
		{"% %.o x%y: x | %", "%.o x%y %.o: x x | % x %"},
		{"% %.o: %.c | %.h", "p = %\n$(p).o: $(p).c $(p).c | $(p).c $(p).h"},
		{"% //%: a | ..%", "//%: a | ..%"}, // a pattern need not be like a path
		{"% ..%,: x", "..%,: x"},
		{"% " + times(150, "x") + "%: y", times(150, "x") + "%: y"},
	} {
		is(t, c.want, "m", c.s)
	}
	for _, s := range []string{"a %.o:", "%.o a:", "%.o %.c a:", "a b %:", "%% %:", "% %%:", "%%:", "a %%:", "%.%:", ".PHONY %.o: x"} {
		isWrong(t, api.ErrForm, "m", 2, "m", "# a note\n"+s+"\n\trun")
	}
}

func TestTargetsInputsAndOrdersArePaths(t *testing.T) {
	for _, bad := range []string{"a//b", "/a", "a/", "/", ".", "..", "a/../b", "a/./b", "a,b", "a@", "\x00", "\xff", "a;b", "a%%b", times(101, "x"), "a/b/c/d/e/f/g/h/i"} {
		for _, s := range []string{"@: x", "x @: y", "@ x: y", "a: @", "a: x @", "a: | @", "a: x | y @", "%.o: @", "%.o: x @", "%.o: | @", "a.o: %.o: @", "a.o: %.o: %.c @", "a.o: %.o: | @", "@: %: x", "a.o @: %: x", ".PHONY: @", ".PHONY: x | @"} {
			isWrong(t, api.ErrForm, "m", 2, "m", "a:\n"+strings.ReplaceAll(s, "@", bad))
		}
	}
	for _, s := range []string{"a: %", "a: %.c", "a: | %", "a: x | y %", "%.o: %.o: x", "a%: a%: x", "a.o: %.o: %%", "a.o: %.o: a//%", "a.o: %.o: | %/", ".o: %.o: %", ".o: %.o: | %", ".o: %.o: %/x", "a/b/c/d/e/f/g/h: %: x/%", times(99, "x") + ": %: %yy", ".PHONY: %"} {
		isWrong(t, api.ErrForm, "m", 1, "m", s)
	}
	for _, path := range []string{times(100, "x"), "a/b/c/d/e/f/g/h", "...", ".a", "-", "+", "_", "a.b-c_d+e", "0"} {
		is(t, path+": b", "m", path+": b")
		is(t, "z: "+path+" | y", "m", "z: "+path+" | y")
		is(t, "z: y | "+path, "m", "z: y | "+path)
		is(t, path+": b *"+path, "m", path+": %: b")
		is(t, "a: "+path+" *a", "m", "a: %: "+path)
		is(t, "% %.o: "+path+" | %", "m", "%.o: "+path+" | %")
	}
	is(t, times(98, "x")+": "+times(98, "x")+"yy *"+times(98, "x"), "m", times(98, "x")+": %: %yy")
}

func TestRecipes(t *testing.T) {
	is(t, "a: ;run $@ # $(x, b:, c: ;end", "m", "a:\n\t run $@ # $(x\nb:\n\t\nc:\n\tend")
	is(t, "a: ;x ;x ;y", "m", "a:\n\tx\n# a note\n\tx\n\n\ty")
	is(t, "% %.o: ;cc $<", "m", "v = w\n%.o:\n\tcc $<")
	is(t, "a: ;x y", "m", "a:\n\tx \\\n\ty")
	is(t, "", "m", ".PHONY: a\n\trun")
}

// E5

func TestPhonyAndFirst(t *testing.T) {
	for _, c := range []struct{ s, rules, phony, first string }{
		{"", "", "", ""},
		{".PHONY: a", "", "a", ""},
		{".PHONY:", "", "", ""},
		{".PHONY: $(none)", "", "", ""},
		{".PHONY: b a b a", "", "a b", ""},
		{".PHONY: b a\n.PHONY: a c\n.PHONY: b", "", "a b c", ""},
		{".PHONY .PHONY: a", "", "a", ""},
		{"p = .PHONY\nl = x y\n$(p): $(l)", "", "x y", ""},
		{".PHONY: a b/c B a-b a.b 1 _ +", "", "+ 1 B _ a a-b a.b b/c", ""},
		{".PHONY: a | b\n\trun", "", "a", ""},
		{".PHONY: .PHONY", "", ".PHONY", ""},
		{"all: a\n.PHONY: all", "all: a", "all", "all"},
		{".PHONY: all\nall: a", "all: a", "all", "all"},
		{".PHONY x: q", ".PHONY x: q", "", ""},
		{"x .PHONY: q", "x .PHONY: q", "", "x"},
		{".PHONY x: q\n.PHONY: r\ny:", ".PHONY x: q, y:", "r", "y"},
		{".phony: a\n.PHON: b\n.PHONYY: c", ".phony: a, .PHON: b, .PHONYY: c", "", ""},
		{"x/.PHONY: a", "x/.PHONY: a", "", "x/.PHONY"},
		{".PHONY: %Y: x%", "", "x.PHON", ""},
		{".PHONY a: %: x-%", "a: x-a *a", "x-.PHONY", "a"},
		{"a:\nb:", "a:, b:", "", "a"},
		{"%.o: x\na: y", "% %.o: x, a: y", "", "a"},
		{"%: x\n%.o: y", "% %: x, % %.o: y", "", ""},
		{".a: b\n.b c: d\ne .f: g\nh:", ".a: b, .b c: d, e .f: g, h:", "", "e"},
		{".a:\n.b/c:\n.d e:", ".a:, .b/c:, .d e:", "", ""},
		{"$(none): x\na:", "a:", "", "a"},
		{"%.o: x\n.c: y\nb.o a.o: %.o: %.c", "% %.o: x, .c: y, b.o: b.c *b, a.o: a.c *a", "", "b.o"},
		{".a.o b.o: %.o: %.c", ".a.o: .a.c *.a, b.o: b.c *b", "", "b.o"},
		{"-include none f\na:", "f:, a:", "p", "f"},
		{"a:\ninclude f\n.PHONY: q", "a:, f:", "p q", "a"},
		{"a: x\na: y\na: x", "a: x, a: y, a: x", "", "a"},
	} {
		m := run(t, "m", c.s, "f", ".PHONY: p\nf:")
		if told(m.Rules) != c.rules || strings.Join(m.Phony, " ") != c.phony || m.First != c.first {
			t.Errorf("%q: %q, %q, %q", c.s, told(m.Rules), m.Phony, m.First)
		}
	}
	isWrong(t, api.ErrForm, "m", 2, "m", ".PHONY: a\n.PHONY: a//b")
	isWrong(t, api.ErrForm, "m", 1, "m", ".PHONY: %.o: x")
}

func TestPhonyMayBeMoreThan200(t *testing.T) {
	all := names(600)
	s := ""
	for i := 0; i < 600; i += 200 {
		s = ".PHONY: " + strings.Join(all[i:i+200], " ") + "\n" + s
	}
	if m := run(t, "m", s+s); !slices.Equal(m.Phony, all) {
		t.Error(m.Phony)
	}
}

// E6

func TestWhatIsNotReadDoesNotMatter(t *testing.T) {
	l := []string{"m", "include f\n-include g none\na: b\nifdef none\ninclude h\nendif", "f", "v = 1\n.PHONY: a", "g", "%.o: %.c\n\tcc"}
	want := run(t, l...)
	for _, more := range [][]string{{"h", "wrong"}, {"h", "a:", "i", times(1001, "x")}, {"", "x:"}, {"M", "v = 2", "F", "", "m ", "b:"}} {
		for at := 0; at <= len(l); at += 2 {
			if got := run(t, slices.Concat(l[:at], more, l[at:])...); !reflect.DeepEqual(got, want) {
				t.Errorf("with %q at %d: %+v, want %+v", more, at, got, want)
			}
		}
	}
	turned := []string{l[4], l[5], l[2], l[3], l[0], l[1], l[2], "wrong", l[0], ""}
	if got := run(t, turned...); !reflect.DeepEqual(got, want) {
		t.Errorf("in another order: %+v, want %+v", got, want)
	}
	if got := run(t, append(slices.Clone(l), "none", "")...); reflect.DeepEqual(got, want) {
		t.Error("a file that is there now is not read")
	}
}

func TestWhatIsReadIsSoAgain(t *testing.T) {
	right := []string{"m", "v := a.o\ninclude f f\n$(v): %.o: %.c\n.PHONY: $(v)\nb: c", "f", "v += b.o\n"}
	wrong := tree("m", "v := a\ninclude f", "f", "a:\n$(v): $")
	want := run(t, right...)
	if told(want.Rules) != "a.o: a.c *a, b.o: b.c *b, b: c" {
		t.Errorf("%+v", want)
	}
	for range 3 {
		if got := run(t, right...); !reflect.DeepEqual(got, want) {
			t.Errorf("%+v, want %+v", got, want)
		}
		got, e, at := Run(wrong, "m")
		if !reflect.DeepEqual(got, Make{}) || e != api.ErrForm || at != (Place{"f", 2}) {
			t.Errorf("%+v, %d, %+v", got, int(e), at)
		}
	}
}

// said is E1 to E5 in another way: no node is left out, but each is asked whether
// all conditionals around it hold, and an error is handed on from call to call.

type sayer struct {
	files []api.File
	m     Make
	nodes int
}

type stop struct {
	e  api.Errno
	at Place
}

func said(files []api.File, path string) (Make, api.Errno, Place) {
	x := &sayer{files: files}
	if s := x.file(path, 0); s != nil {
		return Make{}, s.e, s.at
	}
	phony := map[string]int{}
	for _, name := range x.m.Phony {
		phony[name]++
	}
	x.m.Phony = nil
	for name := range phony {
		x.m.Phony = append(x.m.Phony, name)
	}
	slices.Sort(x.m.Phony)
	for i := len(x.m.Rules) - 1; i >= 0; i-- {
		if r := x.m.Rules[i]; !r.Open && r.Targets[0][0] != '.' {
			x.m.First = r.Targets[0]
		}
	}
	return x.m, api.OK, Place{}
}

func (x *sayer) file(path string, within int) *stop {
	at := Place{path, 0}
	i := x.there(path)
	if i < 0 {
		return &stop{api.ErrNone, at}
	}
	if within >= 20 {
		return &stop{api.ErrDeep, at}
	}
	if len(x.m.Read) >= 200 {
		return &stop{api.ErrLong, at}
	}
	x.m.Read = append(x.m.Read, path)
	lines, e, no := lex.Lex(x.files[i].Text)
	if e != api.OK {
		return &stop{e, Place{path, no}}
	}
	nodes, e, no := parse.Parse(lines)
	if e != api.OK {
		return &stop{e, Place{path, no}}
	}
	hold := []bool{true} // the conditionals around, and all of the file
	for _, n := range nodes {
		last := len(hold) - 1
		isDone := !slices.Contains(hold, false)
		switch n.Kind {
		case parse.Else:
			hold[last] = !hold[last]
			continue
		case parse.End:
			hold = hold[:last]
			continue
		case parse.If:
			hold = append(hold, true) // what is around it holds it back, or not
		}
		if !isDone {
			continue
		}
		if s := x.node(n, Place{path, n.No}, within, hold); s != nil {
			return s
		}
	}
	return nil
}

func (x *sayer) there(path string) int {
	for i, f := range x.files {
		if f.Path == path {
			return i
		}
	}
	return -1
}

func (x *sayer) node(n parse.Node, at Place, within int, hold []bool) *stop {
	x.nodes++
	if x.nodes > 1000 {
		return &stop{api.ErrLong, at}
	}
	switch n.Kind {
	case parse.Assign:
		v, e := vars.Assign(x.m.Vars, n.Name, n.Op, n.Text)
		if e != api.OK {
			return &stop{e, at}
		}
		x.m.Vars = v
	case parse.Include:
		s, e := vars.Expand(x.m.Vars, n.Text)
		if e != api.OK {
			return &stop{e, at}
		}
		for _, w := range text.Words(s) {
			if n.Op == "-include" && x.there(w) < 0 {
				continue
			}
			if s := x.file(w, within+1); s != nil {
				return s
			}
		}
	case parse.If:
		is := vars.Vars{L: x.m.Vars.L}
		v, _ := vars.Get(is, n.Name)
		holds := len(v.Text) > 0
		if n.Op == "ifeq" || n.Op == "ifneq" {
			a, e := vars.Expand(x.m.Vars, n.Name)
			if e != api.OK {
				return &stop{e, at}
			}
			b, e := vars.Expand(x.m.Vars, n.Text)
			if e != api.OK {
				return &stop{e, at}
			}
			holds = a == b
		}
		hold[len(hold)-1] = holds != strings.HasPrefix(n.Op, "ifn")
	case parse.Rule:
		if e := x.rule(n); e != api.OK {
			return &stop{e, at}
		}
	}
	return nil
}

func (x *sayer) rule(n parse.Node) api.Errno {
	var l [3][]string
	for i, s := range []string{n.Targets, n.Inputs, n.Order} {
		s, e := vars.Expand(x.m.Vars, s)
		if e != api.OK {
			return e
		}
		if l[i] = text.Words(s); len(l[i]) > 200 {
			return api.ErrLong
		}
	}
	targets := apart(l[0], nil)
	if len(targets) == 0 {
		return api.OK
	}
	open := 0
	for _, w := range targets {
		if strings.Count(w, "%") == 1 {
			open++
		}
	}
	var all []Rule
	if n.Pattern == "" {
		if open > 0 && open < len(targets) {
			return api.ErrForm
		}
		all = append(all, Rule{Targets: targets, Open: open > 0, Inputs: l[1], Order: l[2]})
	} else {
		p, e := vars.Expand(x.m.Vars, n.Pattern)
		if e != api.OK {
			return e
		}
		p = strings.Trim(p, " \t")
		for _, w := range targets {
			stem, is := glob.Match(p, w)
			if !is || strings.Count(p, "%") != 1 {
				return api.ErrForm
			}
			r := Rule{Targets: []string{w}, Stem: stem}
			for _, s := range apart(l[1], nil) {
				r.Inputs = append(r.Inputs, glob.Fill(s, stem))
			}
			for _, s := range apart(l[2], l[1]) {
				r.Order = append(r.Order, glob.Fill(s, stem))
			}
			all = append(all, r)
		}
	}
	for _, r := range all {
		r.Order = apart(r.Order, r.Inputs)
		r.Inputs = apart(r.Inputs, nil)
		for _, w := range slices.Concat(r.Targets, r.Inputs, r.Order) {
			if !text.Path(w) && !(r.Open && strings.Count(w, "%") == 1) {
				return api.ErrForm
			}
		}
		if len(r.Targets) == 1 && r.Targets[0] == ".PHONY" {
			x.m.Phony = append(x.m.Phony, r.Inputs...)
			continue
		}
		r.Recipe = append(r.Recipe, n.Recipe...)
		x.m.Rules = append(x.m.Rules, r)
	}
	return api.OK
}

// apart is the words that others are not, each once.
func apart(l, others []string) []string {
	var all []string
	for i, w := range l {
		if !slices.Contains(l[:i], w) && !slices.Contains(others, w) {
			all = append(all, w)
		}
	}
	return all
}

// isAsSaid holds what is read against what the chapter says.
func isAsSaid(t *testing.T, l ...string) api.Errno {
	t.Helper()
	files := tree(l...)
	want, wantErr, wantAt := said(files, "m")
	if got, e, at := Run(files, "m"); !reflect.DeepEqual(got, want) || e != wantErr || at != wantAt {
		t.Fatalf("Run of %s: %+v, %d, %+v, want %+v, %d, %+v", quoted(l), got, int(e), at, want, int(wantErr), wantAt)
	}
	return wantErr
}

// chance tells numbers below n that are the same each time.
type chance struct{ n int }

func (c *chance) below(n int) int {
	c.n = c.n * 48271 % (1<<31 - 1)
	return c.n / 7 % n
}

func (c *chance) one(l []string) string { return l[c.below(len(l))] }

// makefile is some lines, most of which are right, with conditionals that are closed.
func (c *chance) makefile(lines, often int) string {
	right := []string{
		"a = 1", "v := x y", "v += z", "v ?= q", "v =", "p = %.o", "w = a.o b.o", "w += $(v:=.o)", "n = $(v)", "i = g", "e :=", "u := $(n) $(u)",
		"a: b", "a b: c | d", "$(w): %.o: %.c h | %.d h", "$(w): $(p): %.c", "%.o: %.c", "%.o %.x: %.c k | %.d k", "$(v): $(w) | $(v)", ".PHONY: a $(v)", ".PHONY a: %: x%", ".x: y", "$(e): x", "$(v):", "all: $(n) $(n) | $(w) h", ".PHONY: $(w)", ".a $(v): y",
		"a:\n\trun $@\n\tmore", "$(w): %: b\n\tcc $<", "%: %.c\n\t x $$", ".PHONY: k\n\trun",
		"include f", "include g", "-include f none", "include $(i)", "-include $(e)", "-include $(v) f g",
		"ifdef v", "ifndef v", "ifdef none", "ifeq ($(v),x y)", "ifneq ($(v),$(e))", "ifeq ($(words $(v)),2)", "ifndef e", "ifdef i", "else", "endif", "else", "endif", "# note", "",
	}
	wrong := []string{"x := $", "a: $", "a//b: c", "%.o a: b", "$(w): %.c: x", "a: b: c", "include none", "include m", "wrong", "a: $(r)", "r = $(r)", "a: %", "$(v): %.o: x", "ifeq ($(word 0,x),1)", "a: b | " + times(201, "x "), "include h", "\ttab"}
	s := ""
	var open []bool // had the conditional its else?
	for range lines {
		line := c.one(right)
		if c.below(often) == 0 {
			line = c.one(wrong)
		}
		last := len(open) - 1
		switch {
		case strings.HasPrefix(line, "if"):
			open = append(open, false)
		case line == "else" && (last < 0 || open[last]), line == "endif" && last < 0:
			continue
		case line == "else":
			open[last] = true
		case line == "endif":
			open = open[:last]
		}
		s += line + "\n"
	}
	return s + times(len(open), "endif\n")
}

func TestManyMakefilesAreAsSaid(t *testing.T) {
	c, told := &chance{1}, map[api.Errno]int{}
	for range 20000 {
		often := []int{12, 40, 1000}[c.below(3)]
		l := []string{"m", c.makefile(c.below(16)+1, often), "f", c.makefile(c.below(8), often), "g", c.makefile(c.below(5), often), "h", "include h"}
		told[isAsSaid(t, l...)]++
	}
	for e, least := range map[api.Errno]int{api.OK: 4000, api.ErrForm: 2000, api.ErrNone: 150, api.ErrDeep: 200, api.ErrArg: 100, api.ErrLong: 100} {
		if told[e] < least {
			t.Error(told)
		}
	}
}

// TestCountsAreAsSaid has files of many nodes that include one another, near to all
// the bounds.
func TestCountsAreAsSaid(t *testing.T) {
	c, told := &chance{1}, map[string]int{}
	for range 1000 {
		many := []int{3, 6, 20, 21, 22}[c.below(5)]
		words, parts := 1+c.below(60/many+1), 1+c.below(24/many)
		var l []string
		for i := range many {
			s := times(c.below([]int{1, 6, 60}[c.below(3)]), "a += x\n")
			for range parts {
				s += "ifdef " + c.one([]string{"a", "none"}) + "\n" + times(c.below(5), "b = 1\n") + "else\n" + times(c.below(5), "b = 2\n") + "endif\n"
				s += c.one([]string{"include", "-include"})
				for range c.below(words) + 1 {
					s += fmt.Sprint(" f", i+1+c.below(c.below(8)/6+1))
				}
				s += "\n"
			}
			l = append(l, fmt.Sprint("f", i), s)
		}
		l[0] = "m"
		for i := range 4 {
			l = append(l, fmt.Sprint("f", many+i), times(c.below(3), "c:\n"))
		}
		_, e, at := said(tree(l...), "m")
		isAsSaid(t, l...)
		told[fmt.Sprint(int(e), " ", at.No > 0)]++
	}
	for _, s := range []string{"0 false", "3 true", "3 false", "15 false"} {
		if told[s] < 50 {
			t.Error(told)
		}
	}
}

// P1 to P4

func TestFilesHandedInAreLeftAlone(t *testing.T) {
	room := tree("m", "v = 1\na: b | $(v)\n\trun\n-include f g\n.PHONY: a", "f", "x y: z", "g", "b:", "m", "wrong")
	want := slices.Clone(room)
	for n := range len(room) + 1 {
		m, e, at := Run(room[:n], "m")
		if !slices.Equal(room, want) {
			t.Fatalf("the files are %+v now", room)
		}
		read := []string{"m", "f", "g"}[:min(n, 3)]
		if n == 0 && (e != api.ErrNone || at != (Place{Path: "m"})) || n > 0 && (e != api.OK || !slices.Equal(m.Read, read)) {
			t.Errorf("of %d files: %+v, %d, %+v", n, m, int(e), at)
		}
	}
}

// TestListsOfAnAnswerShareNothing writes into each list, up to its capacity, and
// looks at all others, and at another answer.
func TestListsOfAnAnswerShareNothing(t *testing.T) {
	l := []string{"m", "v = b a\nw := 1\nx.o y.o z.o: %.o: %.c k | %.h k d\n\tcc $<\n\tld\na b: c d | e f\n\trun\n%.o %.p: %.c k | d\n\tr\n.PHONY: $(v)\ninclude f f\nlast: a | b\n\tend", "f", "f: g | h\n\ts\n\tt"}
	want := run(t, l...)
	m := run(t, l...)
	lists := []*[]string{&m.Phony, &m.Read}
	for i := range m.Rules {
		lists = append(lists, &m.Rules[i].Targets, &m.Rules[i].Inputs, &m.Rules[i].Order, &m.Rules[i].Recipe)
	}
	for _, p := range lists {
		was := slices.Clone(*p)
		if len(was) == 0 && cap(*p) == 0 {
			continue
		}
		all := (*p)[:cap(*p)]
		kept := slices.Clone(all)
		for i := range all {
			all[i] = "changed"
		}
		if !reflect.DeepEqual(run(t, l...), want) {
			t.Error("another answer is changed")
		}
		*p = was
		if !reflect.DeepEqual(m, want) {
			t.Errorf("a list shares what was %q with another one: %+v", kept, m)
		}
	}
	for i := range m.Vars.L[:cap(m.Vars.L)] {
		m.Vars.L[:cap(m.Vars.L)][i] = vars.Var{Name: "changed"}
	}
	if !reflect.DeepEqual(run(t, l...), want) {
		t.Error("variables are shared by answers")
	}
}

func TestAnythingEnds(t *testing.T) {
	const many = 1 << 13
	pieces := []string{"", "\n", "a", ":", "%", "=", "include ", "m", "-include m f\n", "include f\n", "\t", "\\\n", "ifdef a\n", "ifeq (a,a)\n", "else\n", "endif\n", "a: b\n", "%: %\n", "$(", ")", "$", "a := $(a)x\n", "a += $(a)\n", "a: %: $(a)\n", ".PHONY: a\n", "\x00\xff", "|", "\tx\n", "a = $(b)\nb = $(a)\n", "x: $(b)\n"}
	for _, a := range pieces {
		for _, b := range pieces {
			for _, n := range []int{2, 150, many} {
				for _, s := range []string{times(n, a) + b, times(n, a+b), a + times(n, b)} {
					m, e, at := Run(tree("m", s, "f", b+"\n"+a), "m")
					if e != api.OK && !reflect.DeepEqual(m, Make{}) || e == api.OK && (at != (Place{}) || m.Read[0] != "m") {
						t.Fatalf("Run of %s: %+v, %d, %+v", quoted([]string{s}), m, int(e), at)
					}
				}
			}
		}
	}
}

func TestManyAndLongFiles(t *testing.T) {
	files := tree("m", "l := "+times(400, "f ")+"\nl := $(l:=x) $(l:=y) $(l:=z)\n"+times(199, "-include $(l)\n")+"include"+times(199, " f"), "f", times(1<<21, "\n")+"v = 1")
	for i := range 1 << 17 {
		files = append(files, api.File{Path: strconv.Itoa(i), Text: "wrong"})
	}
	m, e, _ := Run(files, "m")
	if e != api.OK || len(m.Read) != 200 || len(m.Vars.L) != 2 {
		t.Error(len(m.Read), m.Vars, int(e))
	}
}

func TestRulesOfManyWords(t *testing.T) {
	w := strings.Join(names(200), " ")
	m := run(t, "m", "w := "+w+"\ni := $(foreach i,$(w),$(i)%)\no := $(foreach i,$(w),x$(i)%)\n"+times(100, "$(w): %: $(i) | $(o)\n"))
	if len(m.Rules) != 20000 {
		t.Fatal(len(m.Rules))
	}
	for _, r := range m.Rules {
		if len(r.Inputs) != 200 || len(r.Order) != 200 || r.Inputs[199] != "hr"+r.Stem {
			t.Fatalf("%+v", r)
		}
	}
}
