package call

import (
	"fmt"
	"slices"
	"strconv"
	"strings"
	"testing"

	"cooperage/api"
	"cooperage/glob"
	"cooperage/text"
)

// functions is the table of the promise C2: each name, and how many arguments it takes.
func functions() map[string]int {
	return map[string]int{
		"subst": 3, "patsubst": 3, "strip": 1, "findstring": 2, "filter": 2, "filter-out": 2,
		"sort": 1, "word": 2, "wordlist": 3, "words": 1, "firstword": 1, "lastword": 1,
		"dir": 1, "notdir": 1, "suffix": 1, "basename": 1, "addsuffix": 2, "addprefix": 2, "join": 2,
	}
}

// fit is arguments that the function of a name takes.
func fit(name string) []string {
	args := make([]string, functions()[name])
	for i := range args {
		args[i] = strconv.Itoa(i + 1)
	}
	return args
}

// is holds an answer against what it must be: is(t, want, name, args...).
func is(t *testing.T, want, name string, args ...string) {
	t.Helper()
	if got, e := Call(name, args); got != want || e != api.OK {
		t.Errorf("Call(%q, %s) = %s, %d, want %s", name, quoted(args...), quoted(got), int(e), quoted(want))
	}
}

// isWrong is is for calls that err.
func isWrong(t *testing.T, want api.Errno, name string, args ...string) {
	t.Helper()
	if got, e := Call(name, args); got != "" || e != want {
		t.Errorf("Call(%q, %s) = %s, %d, want %d", name, quoted(args...), quoted(got), int(e), int(want))
	}
}

// quoted tells texts for a failure; of long ones the beginning and the size.
func quoted(l ...string) string {
	var told []string
	for _, s := range l {
		if len(s) > 200 {
			told = append(told, fmt.Sprintf("%q..(%d bytes)", s[:20], len(s)))
			continue
		}
		told = append(told, strconv.Quote(s))
	}
	return strings.Join(told, " ")
}

// texts tells all texts of at most size bytes of an alphabet.
func texts(size int, alphabet string) []string {
	all := []string{""}
	start := 0
	for range size {
		end := len(all)
		for _, s := range all[start:end] {
			for i := range len(alphabet) {
				all = append(all, s+alphabet[i:i+1])
			}
		}
		start = end
	}
	return all
}

// cut is the words of a text, said byte by byte.
func cut(s string) []string {
	var l []string
	word := ""
	for i := range len(s) {
		if s[i] != 32 && s[i] != 9 {
			word += s[i : i+1]
			continue
		}
		if word != "" {
			l = append(l, word)
		}
		word = ""
	}
	if word != "" {
		l = append(l, word)
	}
	return l
}

// C1

func TestMany(t *testing.T) {
	for name, want := range functions() {
		if got := Many(name); got != want {
			t.Errorf("Many(%q) = %d, want %d", name, got, want)
		}
	}
}

// strangers are names that no function has, many of them near to one that there is.
func strangers() []string {
	all := []string{"", " ", "what", "\x00", "\xff", "%", "subst,", "shell", "if", "call", "filter_out", "filterout", "wordslist", strings.Repeat("word", 1<<16)}
	there := functions()
	add := func(s string) {
		if _, is := there[s]; !is {
			all = append(all, s)
		}
	}
	for name := range there {
		for i := range len(name) {
			add(name[:i])
			add(name[i:])
			add(name[:i] + name[i+1:])
			add(name[:i] + strings.ToUpper(name[i:i+1]) + name[i+1:])
		}
		for _, end := range []string{" ", "\t", "\n", "\x00", "s", "x", "(", "-out", "list", name} {
			add(name + end)
			add(end + name)
		}
		add(strings.ToUpper(name))
	}
	slices.Sort(all)
	return slices.Compact(all)
}

func TestThereIsNoOtherName(t *testing.T) {
	for _, name := range strangers() {
		if got := Many(name); got != 0 {
			t.Errorf("Many(%q) = %d", name, got)
		}
		for many := range 5 {
			isWrong(t, api.ErrNone, name, slices.Repeat([]string{"1"}, many)...)
		}
	}
	// ahead of all other errors
	isWrong(t, api.ErrNone, "wor", "x", strings.Repeat("a", 5000))
	isWrong(t, api.ErrNone, "wordx", "0", strings.Repeat("a", 5000))
	isWrong(t, api.ErrNone, "", strings.Repeat("a", 5000))
}

func TestNamesWithinOneAnotherAreOneEach(t *testing.T) {
	is(t, "b", "word", "2", "a b c")
	is(t, "3", "words", "a b c")
	is(t, "b c", "wordlist", "2", "3", "a b c")
	is(t, "a", "firstword", "a b c")
	is(t, "c", "lastword", "a b c")
	is(t, "a", "filter", "a", "a b")
	is(t, "b", "filter-out", "a", "a b")
	is(t, "bc", "subst", "a", "b", "ac")
	is(t, "ac", "patsubst", "a", "b", "ac")
	is(t, "a/", "dir", "a/b")
	is(t, "b", "notdir", "a/b")
	is(t, ".b", "suffix", "a.b")
	is(t, "a.bc", "addsuffix", "c", "a.b")
	is(t, "ca.b", "addprefix", "c", "a.b")
}

func TestOtherNumbersOfArguments(t *testing.T) {
	for name, many := range functions() {
		if _, e := Call(name, fit(name)); e != api.OK {
			t.Errorf("Call(%q, %q) errs: %d", name, fit(name), int(e))
		}
		isWrong(t, api.ErrArg, name)
		for n := range 8 {
			if n == many {
				continue
			}
			isWrong(t, api.ErrArg, name, make([]string, n)...)
			isWrong(t, api.ErrArg, name, slices.Repeat([]string{"1"}, n)...)
			isWrong(t, api.ErrArg, name, slices.Repeat([]string{strings.Repeat("1", 5000)}, n)...)
		}
		isWrong(t, api.ErrArg, name, make([]string, 1<<16)...)
		if got, e := Call(name, []string{}); got != "" || e != api.ErrArg {
			t.Errorf("Call(%q) of an empty list = %q, %d", name, got, int(e))
		}
	}
}

func TestWhatIsBehindTheLengthOfTheArgumentsIsNotRead(t *testing.T) {
	for name, many := range functions() {
		room := append(fit(name), "1", "2", "3")
		if got, e := Call(name, room[:many-1]); got != "" || e != api.ErrArg {
			t.Errorf("Call(%q) of one too few with more behind = %q, %d", name, got, int(e))
		}
		want, _ := Call(name, fit(name))
		if got, e := Call(name, room[:many]); got != want || e != api.OK {
			t.Errorf("Call(%q) with more behind = %q, %d, want %q", name, got, int(e), want)
		}
	}
}

func TestNumbers(t *testing.T) {
	for _, n := range []string{
		"", " ", "\t", "-1", "-0", "+1", "00", "01", "007", "1x", "x1", "x", "1 1", "1 x", "1\t2", "1.", "1.0", "1e1", "0x1", "1_0",
		"1\n", "\n1", "1\r", "1\v", "1\x00", "\u00a01", "\u0661", "\uff11", "1\xff", "%", "1,", "1000000000", "9999999999", "0123456789",
		"9223372036854775807", "9223372036854775808", "18446744073709551617", strings.Repeat("1", 1<<16), strings.Repeat(" ", 1<<16), "999999999 9",
	} {
		isWrong(t, api.ErrArg, "word", n, "a b c")
		isWrong(t, api.ErrArg, "word", n, "")
		isWrong(t, api.ErrArg, "wordlist", n, "1", "a b c")
		isWrong(t, api.ErrArg, "wordlist", "1", n, "a b c")
		isWrong(t, api.ErrArg, "wordlist", n, n, "a b c")
		isWrong(t, api.ErrArg, "wordlist", "9", n, "")
		isWrong(t, api.ErrArg, "wordlist", n, "0", "")
	}
	for _, zero := range []string{"0", " 0", "0\t", "\t 0 \t"} {
		isWrong(t, api.ErrArg, "word", zero, "a b c")
		isWrong(t, api.ErrArg, "word", zero, "")
		isWrong(t, api.ErrArg, "wordlist", zero, "1", "a b c")
		isWrong(t, api.ErrArg, "wordlist", zero, "0", "a b c")
		is(t, "", "wordlist", "1", zero, "a b c")
		is(t, "", "wordlist", "3", zero, "a b c")
		is(t, "", "wordlist", "999999999", zero, "")
	}
	for _, blank := range []string{"", " ", "\t", " \t  \t ", strings.Repeat(" \t", 1<<12)} {
		is(t, "b", "word", blank+"2", "a b c")
		is(t, "b", "word", "2"+blank, "a b c")
		is(t, "b", "word", blank+"2"+blank, "a b c")
		is(t, "b c", "wordlist", blank+"2"+blank, "3", "a b c")
		is(t, "b c", "wordlist", "2", blank+"3"+blank, "a b c")
	}
}

func TestNumbersOfEachByte(t *testing.T) {
	for i := range 256 {
		b := string([]byte{byte(i)})
		isBlank, isDigit := i == 32 || i == 9, '0' <= i && i <= '9'
		for _, n := range []string{"2" + b, b + "2"} {
			isRight := isBlank || isDigit && n != "02"
			for _, args := range [][]string{{n, "a b c"}, {n, "3", "a b c"}, {"1", n, "a b c"}} {
				name := []string{"word", "wordlist"}[len(args)-2]
				if _, e := Call(name, args); (e == api.OK) != isRight || !isRight && e != api.ErrArg {
					t.Errorf("Call(%q, %q) errs: %d", name, args, int(e))
				}
			}
		}
	}
}

// widest tells for each function arguments whose answer has just so many bytes, of at least 100.
func widest(size int) map[string][][]string {
	s := strings.Repeat("s", size)
	list := "l " + s[:size-2]
	return map[string][][]string{
		"subst": {
			{"", "b", s}, {"x", "b", s}, {"x", s[:size-2], "sxs"}, {"x", s, "x"}, {"x", "", "x" + s + "x"}, {"xx", "s", strings.Repeat("xx", size)},
			{"x", s[:size/2], "xx" + s[:size%2]}, {" ", "\t", strings.Repeat(" ", size)}, {"s", s, "s"}, {"b", "s", strings.Repeat("b", size)},
		},
		"patsubst":   {{"x", "y", list}, {"x", s[:size-2], "l  x"}, {"%", s[:size-1] + "%", "y"}, {"%%", "", s}, {"x", "", strings.Repeat("x ", size+1)}},
		"strip":      {{list}, {"\t " + s + " "}, {strings.Repeat(" ", size) + list}, {strings.Repeat("a  ", size/2-1) + s[:2+size%2]}},
		"findstring": {{s, s}, {s, "a " + s + " b"}, {strings.Repeat(" ", size), strings.Repeat(" ", size+5)}},
		"filter":     {{"%", list}, {"l s%", "x " + list + " y"}, {s, s}, {"l s%", s[:size-2] + " x l"}},
		"filter-out": {{"", list}, {"x y", "x  " + list + "  y"}, {"l", s}},
		"sort":       {{list}, {s[:size-2] + " l " + s[:size-2] + "\tl"}, {strings.Repeat(s+" ", 5)}},
		"word":       {{"1", s}, {"2", "a " + s + " b"}},
		"wordlist":   {{"1", "2", list}, {"2", "3", "a " + list + " b"}, {"2", "999999999", s + s + " " + s}},
		"firstword":  {{s}, {" \t" + s + " b"}},
		"lastword":   {{s}, {"a " + s + " \t"}},
		"dir":        {{s[:size-1] + "/"}, {s[:size-1] + "/" + s}, {"b " + s[:size-4] + "/b"}, {s[:size-4] + "/ b"}},
		"notdir":     {{s}, {s + "/" + s}, {"b/ a/l " + s[:size-2]}},
		"suffix":     {{"." + s[:size-1]}, {s + "." + s[:size-1]}, {"a a.b " + s + "." + s[:size-4] + " c"}},
		"basename":   {{s}, {s + ".s"}, {s[:size-1] + "/.x"}, {".x " + s[:size-2] + ".y l .x"}},
		"addsuffix":  {{s[:size-1], "a"}, {"bc", s[:size-2]}, {s[:10], "a " + s[:size-22]}, {"", list}},
		"addprefix":  {{s[:size-1], "a"}, {"bc", s[:size-2]}, {s[:10], "a " + s[:size-22]}, {"", list}},
		"join":       {{s, ""}, {"", s}, {s[:50], s[50:]}, {"a", s[:10] + " " + s[:size-12]}, {s[:10] + " " + s[:size-12], "a"}},
	}
}

func TestAnswersMayHave4000Bytes(t *testing.T) {
	for _, size := range []int{3999, 4000, 4001, 4002, 9000} {
		all := widest(size)
		all["words"] = nil // its answer is never that long
		for name := range functions() {
			rows, is := all[name]
			if !is {
				t.Errorf("no arguments for %q", name)
			}
			for _, args := range rows {
				got, e := Call(name, args)
				if size <= 4000 && (len(got) != size || e != api.OK) || size > 4000 && (got != "" || e != api.ErrLong) {
					t.Errorf("Call(%q, %s) with an answer of %d bytes: %d bytes, %d", name, quoted(args...), size, len(got), int(e))
				}
			}
		}
	}
}

func TestLongTextsMayHaveShortAnswers(t *testing.T) {
	const many = 1 << 20
	long := strings.Repeat("a", many)
	list := strings.Repeat("a ", many)
	is(t, "", "subst", "a", "", long)
	is(t, "b", "subst", long, "b", long)
	is(t, "", "subst", "b", long, "")
	is(t, "c", "subst", "b", long, "c")
	is(t, "c", "patsubst", long, long, "c")
	is(t, "", "strip", strings.Repeat(" \t", many))
	is(t, "a", "findstring", "a", list)
	is(t, "", "findstring", long+"b", long)
	is(t, "b", "filter", "b", list+"b "+list)
	is(t, "b", "filter", list+"b "+list, "b")
	is(t, "", "filter", strings.Repeat("b ", many), list)
	is(t, "b", "filter-out", "a", list+"b "+list)
	is(t, "", "filter-out", strings.Repeat("b ", many)+"%", list)
	is(t, "a b", "sort", list+"b "+list)
	is(t, "b", "word", strconv.Itoa(many+1), list+"b")
	is(t, "", "word", "999999999", list)
	is(t, "a b", "wordlist", strconv.Itoa(many), "999999999", list+"b")
	is(t, strconv.Itoa(many), "words", list)
	is(t, "1", "words", long)
	is(t, "a", "firstword", "a "+long)
	is(t, "b", "lastword", list+"b")
	is(t, "a/", "dir", "a/"+long)
	is(t, "b", "notdir", long+"/b")
	is(t, "", "notdir", strings.Repeat("a/ ", many))
	is(t, ".b", "suffix", long+".b")
	is(t, "", "suffix", list)
	is(t, "b", "basename", "b."+long)
	is(t, "", "basename", strings.Repeat(".a ", many))
	is(t, "", "addsuffix", long, "\t")
	is(t, "", "addprefix", long, " ")
	is(t, "", "join", strings.Repeat("\t", many), strings.Repeat(" ", many))
}

func TestAnswersBeyondAllMemoryAreTooLong(t *testing.T) {
	const many = 1 << 20
	long := strings.Repeat("b", many)
	list := strings.Repeat("a ", many)
	isWrong(t, api.ErrLong, "subst", "a", long, list)
	isWrong(t, api.ErrLong, "subst", " ", long, list)
	isWrong(t, api.ErrLong, "patsubst", "a", long, list)
	isWrong(t, api.ErrLong, "patsubst", "%", long+"%"+long, list)
	isWrong(t, api.ErrLong, "patsubst", "a", "", list)
	isWrong(t, api.ErrLong, "addsuffix", long, list)
	isWrong(t, api.ErrLong, "addprefix", long, list)
	isWrong(t, api.ErrLong, "join", list, list)
	isWrong(t, api.ErrLong, "dir", list)
	isWrong(t, api.ErrLong, "filter", "%", list)
	isWrong(t, api.ErrLong, "filter-out", list+"b", strings.Repeat("c ", many))
}

func TestErrArgIsToldAheadOfErrLong(t *testing.T) {
	long := strings.Repeat("a", 4001)
	isWrong(t, api.ErrArg, "word", "0", long)
	isWrong(t, api.ErrArg, "word", "x", long)
	isWrong(t, api.ErrArg, "wordlist", "0", "1", long)
	isWrong(t, api.ErrArg, "wordlist", "1", "x", long)
	isWrong(t, api.ErrArg, "wordlist", "x", "0", long)
	isWrong(t, api.ErrArg, "subst", "a", long)
	isWrong(t, api.ErrArg, "subst", "a", long, "a", "a")
	isWrong(t, api.ErrArg, "strip", long, long)
	isWrong(t, api.ErrLong, "word", "1", long)
	isWrong(t, api.ErrLong, "wordlist", "1", "1", long)
}

// C2

func TestSubst(t *testing.T) {
	for _, c := range []struct{ a, b, t, want string }{
		{"ee", "EE", "feet on the street", "fEEt on the strEEt"},
		{"", "x", "ab", "ab"}, {"", "x", "", ""}, {"", "", "a b", "a b"}, {"", "x", " \t", " \t"}, {"", "x", "\xff\x80é", "\xff\x80é"},
		{"x", "y", "", ""}, {"x", "y", "ab", "ab"}, {"abc", "y", "ab", "ab"},
		{"ab", "x", "ab", "x"}, {"ab", "", "ab", ""}, {"ab", "ab", "ab", "ab"}, {"a b", "\t", "a b", "\t"},
		{"aa", "b", "aaa", "ba"}, {"aa", "b", "aaaa", "bb"}, {"aa", "b", "aaaaa", "bba"}, {"aba", "x", "ababa", "xba"}, {"abab", "x", "abababab", "xx"},
		{"a", "aa", "aba", "aabaa"}, {"a", "bab", "aa", "babbab"}, {"ab", "aab", "abab", "aabaab"}, {"a", "", "banana", "bnn"}, {"ab", "", "aabb", "ab"},
		{" ", "", " a  b ", "ab"}, {" ", "\t", " a  b ", "\ta\t\tb\t"}, {"\t", "  ", "a\tb", "a  b"}, {"a", " ", "aba", " b "}, {"a ", "b", "a a  a", "bb a"},
		{" a ", " ", "x a a y", "x a y"}, {"b", "x", " a\t b  ", " a\t x  "},
		{"%", "x", "a%b", "axb"}, {"a%", "x", "ab", "ab"}, {"%.c", "%.o", "a.c %.c", "a.c %.o"},
		{"\n", ";", "a\nb", "a;b"}, {"\x00", "", "\x00a\x00", "a"}, {"A", "x", "aA", "ax"}, {"\xa9", "x", "é", "\xc3x"}, {"é", "\xff", "éé", "\xff\xff"},
	} {
		is(t, c.want, "subst", c.a, c.b, c.t)
	}
}

func TestSubstByteByByte(t *testing.T) {
	for _, a := range texts(3, "ab ") {
		for _, b := range []string{"", "a", "ab", "b a", " "} {
			for _, s := range texts(6, "ab ") {
				want := ""
				for i := 0; i < len(s); {
					if a != "" && strings.HasPrefix(s[i:], a) {
						want += b
						i += len(a)
						continue
					}
					want += s[i : i+1]
					i++
				}
				is(t, want, "subst", a, b, s)
			}
		}
	}
}

func TestPatsubst(t *testing.T) {
	for _, c := range []struct{ p, q, t, want string }{
		{"%.c", "%.o", "a.c b.h", "a.o b.h"}, {"%.c", "%.o", " x.c \t y.h ", "x.o y.h"}, {"%.c", "%.o", ".c", ".o"},
		{"%.c", "%.o", "", ""}, {"%.c", "%.o", " \t ", ""},
		{"a", "b", "a aa a", "b aa b"}, {"a", "%", "a b", " b"}, {"a", "%%", "a b", "%% b"}, {"a", "b%", "a", "b"},
		{"%", "x%y", "a b", "xay xby"}, {"%", "x", "a b", "x x"}, {"a%a", "%", "a aa aba", "a  b"}, {"a%", "%", "abc b", "bc b"},
		{"%%", "x", "a b %%", "a b %%"}, {"a%b%", "x", "a%b%", "a%b%"}, {"%", "%%", "a b", "%% %%"}, {"%.c", "%%.o", "a.c", "%%.o"},
		{"", "x", "a b", "a b"}, {"", "%", "a b", "a b"}, {"%", "", "a b", " "}, {"a", "", "a b", " b"}, {"a", "", "b a", "b "}, {"a", "", "a", ""}, {"a", "", "a a a", "  "},
		{"a b", "x", "a b", "a b"}, {" a", "x", "a", "a"}, {"a ", "x", "a", "a"}, {" %", "x", "a", "a"}, {"a", " x ", "a b", " x  b"}, {"%", " % ", "a b", " a   b "}, {"%", "\t%", "a", "\ta"},
		{"%.c %.h", "%.o", "a.c a.h", "a.c a.h"}, {"A", "x", "a", "a"}, {"\xff%", "%\xff", "\xff\x80", "\x80\xff"},
	} {
		is(t, c.want, "patsubst", c.p, c.q, c.t)
	}
}

func TestPatsubstIsSubstOfEachWord(t *testing.T) {
	for _, p := range texts(3, "a%") {
		for _, q := range texts(3, "b%") {
			for _, s := range texts(5, "a \t") {
				var l []string
				for _, w := range cut(s) {
					l = append(l, glob.Subst(p, q, w))
				}
				is(t, strings.Join(l, " "), "patsubst", p, q, s)
			}
		}
	}
}

func TestStrip(t *testing.T) {
	for _, c := range []struct{ t, want string }{
		{"", ""}, {" ", ""}, {"\t", ""}, {" \t \t", ""}, {"a", "a"}, {" a \t b ", "a b"}, {"a\tb", "a b"}, {"b a b", "b a b"},
		{"a\nb", "a\nb"}, {"\n", "\n"}, {"\r a\v", "\r a\v"}, {"a\u00a0b \xff", "a\u00a0b \xff"},
	} {
		is(t, c.want, "strip", c.t)
	}
	for _, s := range texts(6, "ab \t\n") {
		is(t, strings.Join(cut(s), " "), "strip", s)
	}
}

func TestFindstring(t *testing.T) {
	for _, c := range []struct{ a, t, want string }{
		{"b", "abc", "b"}, {"d", "abc", ""}, {"", "abc", ""}, {"", "", ""}, {"a", "", ""}, {"abc", "abc", "abc"}, {"abcd", "abc", ""},
		{"ac", "abc", ""}, {"a b", "a b", "a b"}, {"a b", "a  b", ""}, {"a b", "a\tb", ""}, {" ", "a b", " "}, {"  ", "a b", ""}, {"\t", " \t", "\t"}, {" a ", "b a c", " a "}, {" a ", "a", ""},
		{"%", "abc", ""}, {"%", "a%c", "%"}, {"A", "a", ""}, {"\x80", "\xff\x80", "\x80"}, {"aab", "aaab", "aab"},
	} {
		is(t, c.want, "findstring", c.a, c.t)
	}
	all := texts(4, "ab ")
	for _, a := range all {
		for _, s := range all {
			want := ""
			for i := 0; i+len(a) <= len(s); i++ {
				if s[i:i+len(a)] == a {
					want = a
				}
			}
			is(t, want, "findstring", a, s)
		}
	}
}

func TestFilter(t *testing.T) {
	for _, c := range []struct{ p, t, kept, left string }{
		{"%.c %.s", "a.c b.s c.h d", "a.c b.s", "c.h d"},
		{"%.s %.c", "a.c b.s c.h d", "a.c b.s", "c.h d"},
		{"", "a b", "", "a b"}, {" \t ", "a b", "", "a b"}, {"", "", "", ""}, {"%", "", "", ""}, {"%", " \t", "", ""}, {"", "\t", "", ""},
		{"%", "b  a\tb", "b a b", ""}, {"a", "b  a\tb a", "a a", "b b"}, {"a", "aa A ab ba", "", "aa A ab ba"}, {"a b", "c b a", "b a", "c"}, {" a\tb ", "c b a", "b a", "c"},
		{"%%", "a %% %", "", "a %% %"}, {"a%b%", "a%b% ab", "", "a%b% ab"}, {"%% a", "a %%", "a", "%%"}, {"a%a", "a aa aba", "aa aba", "a"}, {"%", "%", "%", ""},
		{"lib%.a", "lib.a libc.a lib.so", "lib.a libc.a", "lib.so"}, {"\xff%", "\xff \xffa \x80", "\xff \xffa", "\x80"}, {"a a a", "a b", "a", "b"}, {"b a b", "a b c", "a b", "c"},
	} {
		is(t, c.kept, "filter", c.p, c.t)
		is(t, c.left, "filter-out", c.p, c.t)
	}
}

func TestFilterAsksAny(t *testing.T) {
	for _, p := range texts(4, "ab% ") {
		for _, s := range []string{"", "a b", "ab ba aab\tb", " aa bab abab a", "% a% %%"} {
			var kept, left []string
			for _, w := range cut(s) {
				if glob.Any(cut(p), w) {
					kept = append(kept, w)
					continue
				}
				left = append(left, w)
			}
			is(t, strings.Join(kept, " "), "filter", p, s)
			is(t, strings.Join(left, " "), "filter-out", p, s)
		}
	}
}

func TestSort(t *testing.T) {
	for _, c := range []struct{ t, want string }{
		{"", ""}, {" \t", ""}, {"a", "a"}, {"a a\ta", "a"}, {"b a b", "a b"}, {"foo bar lose foo", "bar foo lose"},
		{"ab a abc aa", "a aa ab abc"}, {"abc ab a", "a ab abc"}, {"b ab a/b a.b a-b a", "a a-b a.b a/b ab b"},
		{"10 9 1 2 09", "09 1 10 2 9"}, {"a B A b", "A B a b"}, {"\xff a \x80 é z \x7f", "a z \x7f \x80 é \xff"}, {"\xffa \xff \xfe", "\xfe \xff \xffa"},
		{"\n \x00 \r", "\x00 \n \r"}, {"a% % %a", "% %a a%"},
	} {
		is(t, c.want, "sort", c.t)
	}
}

func TestSortWordByWord(t *testing.T) {
	for _, s := range append(texts(7, "ab "), texts(6, "a\x7f\x80\t")...) {
		var l []string
		for _, w := range cut(s) {
			place := 0
			for place < len(l) && l[place] < w {
				place++
			}
			if place == len(l) || l[place] != w {
				l = slices.Insert(l, place, w)
			}
		}
		is(t, strings.Join(l, " "), "sort", s)
	}
}

func TestWordAndWordlist(t *testing.T) {
	is(t, "a", "word", "1", "a b c")
	is(t, "c", "word", "3", "a b c")
	is(t, "", "word", "4", "a b c")
	is(t, "", "word", "1", "")
	is(t, "", "word", "1", " \t")
	is(t, "b", "word", "2", "\ta \t b ")
	is(t, "", "word", "999999999", "a b c")
	is(t, "b c", "wordlist", "2", "3", "a b c d")
	is(t, "c d", "wordlist", "3", "9", "a b c d")
	is(t, "a b c d", "wordlist", "1", "999999999", " a\tb  c d ")
	is(t, "d", "wordlist", "4", "4", "a b c d")
	is(t, "", "wordlist", "5", "5", "a b c d")
	is(t, "", "wordlist", "5", "9", "a b c d")
	is(t, "", "wordlist", "9", "5", "a b c d")
	is(t, "", "wordlist", "3", "2", "a b c d")
	is(t, "", "wordlist", "3", "1", "a b c d")
	is(t, "", "wordlist", "999999999", "999999999", "a b c d")
	is(t, "", "wordlist", "999999999", "1", "a b c d")
	is(t, "", "wordlist", "1", "0", "a b c d")
	is(t, "", "wordlist", "1", "1", "")
	is(t, "", "wordlist", "1", "2", " \t")
}

func TestWordlistOneByOne(t *testing.T) {
	for _, s := range []string{"", "\t ", "a", " a b", "a b\tc", "d c b a", "aa b aa b aa"} {
		l := cut(s)
		for a := 1; a < 8; a++ {
			want := ""
			if a <= len(l) {
				want = l[a-1]
			}
			is(t, want, "word", strconv.Itoa(a), s)
			for b := range 8 {
				var part []string
				for i, w := range l {
					if a <= i+1 && i+1 <= b {
						part = append(part, w)
					}
				}
				is(t, strings.Join(part, " "), "wordlist", strconv.Itoa(a), strconv.Itoa(b), s)
			}
		}
	}
}

func TestWordsFirstwordLastword(t *testing.T) {
	for _, c := range []struct{ t, many, first, last string }{
		{"", "0", "", ""}, {" \t ", "0", "", ""}, {"a", "1", "a", "a"}, {" a\t", "1", "a", "a"}, {"a b", "2", "a", "b"}, {"\tab  c\td ", "3", "ab", "d"},
		{"a\nb", "1", "a\nb", "a\nb"}, {"\xff \x80", "2", "\xff", "\x80"}, {strings.Repeat("a ", 12), "12", "a", "a"},
	} {
		is(t, c.many, "words", c.t)
		is(t, c.first, "firstword", c.t)
		is(t, c.last, "lastword", c.t)
	}
	for _, s := range texts(6, "ab \t") {
		l := append(append([]string{""}, cut(s)...), "")
		is(t, strconv.Itoa(len(l)-2), "words", s)
		is(t, l[1], "firstword", s)
		is(t, l[max(len(l)-2, 0)], "lastword", s)
	}
}

func TestDirAndNotdir(t *testing.T) {
	for _, c := range []struct{ t, dir, notdir string }{
		{"", "", ""}, {" \t", "", ""}, {"x/y z", "x/ ./", "y z"}, {"src/foo.c hacks /x y/", "src/ ./ / y/", "foo.c hacks x"},
		{"a", "./", "a"}, {"a/", "a/", ""}, {"/a", "/", "a"}, {"/", "/", ""}, {"//", "//", ""}, {"a//b", "a//", "b"}, {"a/b/c", "a/b/", "c"}, {"a/b/c/", "a/b/c/", ""}, {"/a/b", "/a/", "b"},
		{".", "./", "."}, {"..", "./", ".."}, {"./a", "./", "a"}, {"../a", "../", "a"}, {"a/ b/ c", "a/ b/ ./", "c"}, {"a/ b/", "a/ b/", ""}, {"a/ b c/", "a/ ./ c/", "b"},
		{"\ta/b\t c/d ", "a/ c/", "b d"}, {"a\\b", "./", "a\\b"}, {"\xff/\x80", "\xff/", "\x80"}, {"a a", "./ ./", "a a"},
	} {
		is(t, c.dir, "dir", c.t)
		is(t, c.notdir, "notdir", c.t)
	}
}

func TestSuffixAndBasename(t *testing.T) {
	for _, c := range []struct{ t, suffix, basename string }{
		{"", "", ""}, {" \t", "", ""}, {"src/foo.c src-1.0/bar.c hacks a.b/c", ".c .c", "src/foo src-1.0/bar hacks a.b/c"}, {"src/foo src-1.0/bar hacks .x a.tar.gz", ".x .gz", "src/foo src-1.0/bar hacks a.tar"},
		{"a", "", "a"}, {"a.b", ".b", "a"}, {"a.b.c", ".c", "a.b"}, {".a", ".a", ""}, {"a.", ".", "a"}, {".", ".", ""}, {"..", ".", "."}, {"a..b", ".b", "a."}, {".a.b", ".b", ".a"},
		{"a.b/c", "", "a.b/c"}, {"a/.b", ".b", "a/"}, {"a/b.", ".", "a/b"}, {"a./b", "", "a./b"}, {"a.b/.c", ".c", "a.b/"}, {"a.b/c.d", ".d", "a.b/c"}, {"./a", "", "./a"}, {"../a.b", ".b", "../a"}, {"a.b/", "", "a.b/"}, {"/.", ".", "/"}, {"/", "", "/"}, {"a/..", ".", "a/."}, {"/.a", ".a", "/"},
		{".a .b c", ".a .b", "c"}, {".a .b", ".a .b", ""}, {"a b c", "", "a b c"}, {"\ta.b\t c ", ".b", "a c"}, {"\xff.\x80", ".\x80", "\xff"}, {"a.b a.b", ".b .b", "a a"},
	} {
		is(t, c.suffix, "suffix", c.t)
		is(t, c.basename, "basename", c.t)
	}
}

func TestPartsOfWordsByteByByte(t *testing.T) {
	for _, s := range texts(6, "a./ \t") {
		var dirs, notdirs, suffixes, basenames []string
		add := func(l *[]string, w string) {
			if w != "" {
				*l = append(*l, w)
			}
		}
		for _, w := range cut(s) {
			slash, dot := -1, len(w)
			for i := range len(w) {
				if w[i] == '/' {
					slash, dot = i, len(w)
				}
				if w[i] == '.' {
					dot = i
				}
			}
			if slash < 0 {
				add(&dirs, "./")
			}
			add(&dirs, w[:slash+1])
			add(&notdirs, w[slash+1:])
			add(&suffixes, w[dot:])
			add(&basenames, w[:dot])
		}
		is(t, strings.Join(dirs, " "), "dir", s)
		is(t, strings.Join(notdirs, " "), "notdir", s)
		is(t, strings.Join(suffixes, " "), "suffix", s)
		is(t, strings.Join(basenames, " "), "basename", s)
	}
}

func TestAddsuffixAndAddprefix(t *testing.T) {
	for _, c := range []struct{ a, t, behind, ahead string }{
		{".c", "foo bar", "foo.c bar.c", ".cfoo .cbar"}, {"src/", "foo bar", "foosrc/ barsrc/", "src/foo src/bar"},
		{"", " a\tb ", "a b", "a b"}, {"x", "", "", ""}, {"x", " \t", "", ""}, {"", "", "", ""}, {"", "\t", "", ""}, {"x", "a", "ax", "xa"}, {"x", "\ta  a ", "ax ax", "xa xa"},
		{" ", "a b", "a  b ", " a  b"}, {" x ", "a b", "a x  b x ", " x a  x b"}, {"\t", "a", "a\t", "\ta"}, {"x y", "a b", "ax y bx y", "x ya x yb"}, {"%", "a", "a%", "%a"}, {"\xff", "\x80", "\x80\xff", "\xff\x80"},
	} {
		is(t, c.behind, "addsuffix", c.a, c.t)
		is(t, c.ahead, "addprefix", c.a, c.t)
	}
}

func TestJoin(t *testing.T) {
	for _, c := range []struct{ s, t, want string }{
		{"", "", ""}, {" ", "\t", ""}, {"a", "", "a"}, {"", "a", "a"}, {"\t", " a  b", "a b"}, {"a\t b ", " ", "a b"}, {"a b", ".c .o", "a.c b.o"}, {"a", "x y z", "ax y z"}, {"a b c", "x", "ax b c"}, {" a\tb ", "  x ", "ax b"},
		{"a b", "x y z", "ax by z"}, {"a a", "a a", "aa aa"}, {"\xff", "\x80 é", "\xff\x80 é"},
	} {
		is(t, c.want, "join", c.s, c.t)
	}
}

func TestJoinOneByOne(t *testing.T) {
	all := texts(5, "a \t")
	for _, s := range all {
		for _, x := range all {
			var l []string
			a, b := cut(s), cut(strings.ReplaceAll(x, "a", "b"))
			for len(a) > 0 || len(b) > 0 {
				w := ""
				if len(a) > 0 {
					w, a = a[0], a[1:]
				}
				if len(b) > 0 {
					w, b = w+b[0], b[1:]
				}
				l = append(l, w)
			}
			is(t, strings.Join(l, " "), "join", s, strings.ReplaceAll(x, "a", "b"))
		}
	}
}

func TestWordsAreCutAtBlanksAlone(t *testing.T) {
	for i := range 256 {
		b := string([]byte{byte(i)})
		s := "x" + b + "y"
		l := []string{s}
		if i == 32 || i == 9 {
			l = []string{"x", "y"}
		}
		last := l[len(l)-1]
		is(t, strconv.Itoa(len(l)), "words", s)
		is(t, strings.Join(l, " "), "strip", s)
		is(t, l[0], "firstword", s)
		is(t, last, "lastword", s)
		is(t, strings.Join(l, " "), "sort", s)
		is(t, l[0], "word", "1", s)
		is(t, last, "wordlist", strconv.Itoa(len(l)), "9", s)
		is(t, strings.Join(l, "z ")+"z", "addsuffix", "z", s)
		is(t, "z"+strings.Join(l, " z"), "addprefix", "z", s)
		is(t, strings.Join(l, " "), "patsubst", "z", "u", s)
		is(t, strings.Join(l, " "), "filter", "x% y%", s)
		is(t, strings.Join(l, " "), "filter-out", "z", s)
		is(t, "z"+strings.Join(l, " "), "join", "z", s)
	}
}

// C3

// told is an answer that may not err.
func told(t *testing.T, name string, args ...string) string {
	t.Helper()
	s, e := Call(name, args)
	if e != api.OK {
		t.Fatalf("Call(%q, %s) errs: %d", name, quoted(args...), int(e))
	}
	return s
}

func TestWhatIsSortedStaysSo(t *testing.T) {
	for _, s := range append(texts(7, "ab "), texts(5, "a\x80\xff\t\n")...) {
		sorted := told(t, "sort", s)
		is(t, sorted, "sort", sorted)
		if l := text.Words(sorted); !slices.IsSorted(l) || len(slices.Compact(slices.Clone(l))) != len(l) {
			t.Errorf("sort of %q = %q", s, sorted)
		}
	}
}

func TestWhatIsKeptAndWhatIsLeftOutAreAllWords(t *testing.T) {
	for _, p := range texts(4, "ab% ") {
		for _, s := range []string{"", " \t", "a", "b a", "ab  ba\ta ab", "aab bba b a % a%"} {
			both := append(text.Words(told(t, "filter", p, s)), text.Words(told(t, "filter-out", p, s))...)
			all := text.Words(s)
			slices.Sort(both)
			slices.Sort(all)
			if !slices.Equal(both, all) {
				t.Errorf("filter and filter-out of %q and %q: %q", p, s, both)
			}
		}
	}
}

func TestPartsPutTogetherAreTheWord(t *testing.T) {
	for _, w := range append(texts(7, "a./"), texts(4, "\x80\n%./")...)[1:] {
		d := told(t, "dir", w)
		if d == "./" && !strings.HasPrefix(w, "./") {
			d = ""
		}
		if got := d + told(t, "notdir", w); got != w {
			t.Errorf("dir and notdir of %q: %q", w, got)
		}
		if got := told(t, "basename", w) + told(t, "suffix", w); got != w {
			t.Errorf("basename and suffix of %q: %q", w, got)
		}
	}
}

// P1 to P4

func TestListsHandedInAreLeftAlone(t *testing.T) {
	for name, many := range functions() {
		room := append(fit(name), "behind", "more")
		for i := range many {
			room[i] = "2 1 2"
		}
		if name == "word" || name == "wordlist" {
			room[0], room[1] = " 1 ", "\t2"
		}
		want := slices.Clone(room)
		first, e := Call(name, room[:many])
		if e != api.OK {
			t.Errorf("Call(%q, %q) errs: %d", name, room[:many], int(e))
		}
		if !slices.Equal(room, want) {
			t.Errorf("Call(%q): the list is %q now", name, room)
		}
		if again, _ := Call(name, want[:many]); again != first {
			t.Errorf("Call(%q) = %q, then %q", name, first, again)
		}
	}
}

func TestAnyArgumentsEnd(t *testing.T) {
	long := strings.Repeat("ab./% \t0", 1<<12)
	pieces := []string{"", " ", "%", "0", "1", "a", "/", ".", "\x00\xff", "%% % a%", long, strings.Repeat("/", 1<<16), strings.Repeat(".", 1<<16), strings.Repeat("% ", 1<<12)}
	for name, many := range functions() {
		for i := range 14 * 14 * 14 {
			args := []string{pieces[i%14], pieces[i/14%14], pieces[i/14/14]}
			if i >= 14*14 && many < 3 || i >= 14 && many < 2 {
				break
			}
			got, e := Call(name, args[:many])
			if len(got) > 4000 || e != api.OK && got != "" || e != api.OK && e != api.ErrArg && e != api.ErrLong {
				t.Errorf("Call(%q, %s) = %s, %d", name, quoted(args[:many]...), quoted(got), int(e))
			}
		}
	}
}
