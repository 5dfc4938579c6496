package glob

import (
	"slices"
	"strings"
	"testing"
)

// texts tells all texts of at most size bytes of an alphabet.
func texts(alphabet string, size int) []string {
	all := []string{""}
	start := 0
	for range size {
		end := len(all)
		for _, s := range all[start:end] {
			for i := range len(alphabet) {
				all = append(all, s+alphabet[i:i+1])
			}
		}
		start = end
	}
	return all
}

// G1

func TestRightAndOpen(t *testing.T) {
	for _, c := range []struct {
		p           string
		right, open bool
	}{
		{"", false, false},
		{"%", true, true},
		{"%%", false, false},
		{"%%%", false, false},
		{"x", true, false},
		{"a/b.o", true, false},
		{"%.o", true, true},
		{"lib%", true, true},
		{"a%b", true, true},
		{"a%b%", false, false},
		{"%a%", false, false},
		{"%a%b%c", false, false},
		{" ", true, false},
		{"\x00", true, false},
		{"\n%\t", true, true},
		{"\xff\x80", true, false},
		{"\xff%\x80", true, true},
		{"*?[a-z]", true, false},
		{`\%`, true, true},
		{`\%%`, false, false},
		{"\uff05", true, false},
	} {
		if got := Right(c.p); got != c.right {
			t.Errorf("Right(%q) = %v", c.p, got)
		}
		if got := Open(c.p); got != c.open {
			t.Errorf("Open(%q) = %v", c.p, got)
		}
	}
}

func TestRightAndOpenOfEachByte(t *testing.T) {
	for i := range 256 {
		b := string([]byte{byte(i)})
		if !Right(b) || Open(b) != (b == "%") {
			t.Errorf("of the byte %d: %v, %v", i, Right(b), Open(b))
		}
	}
}

func TestMatch(t *testing.T) {
	for _, c := range []struct{ p, s, stem string }{
		{"%.o", "a/b.o", "a/b"},
		{"%.o", ".o", ""},
		{"%.o", ".o.o", ".o"},
		{"lib%", "libc", "c"},
		{"lib%", "lib", ""},
		{"lib%", "liblib", "lib"},
		{"src/%.c", "src/a/b.c", "a/b"},
		{"a%a", "aa", ""},
		{"a%a", "aaa", "a"},
		{"a%a", "aba", "b"},
		{"ab%ba", "abba", ""},
		{"ab%ba", "ababa", "a"},
		{"%", "", ""},
		{"%", "xyz", "xyz"},
		{"%", "%", "%"},
		{"%", "%%", "%%"},
		{"a%b", "a%b", "%"},
		{"a%b", "a%%b", "%%"},
		{"a%", "a\n\t ", "\n\t "},
		{"\xff%\x80", "\xff\x00\x80", "\x00"},
		{"\xc3%", "é", "\xa9"},
		{"*%", "*x", "x"},
		{`\%`, `\x`, "x"},
		{"x", "x", ""},
		{"a/b.o", "a/b.o", ""},
		{" ", " ", ""},
		{"\xff", "\xff", ""},
	} {
		if stem, ok := Match(c.p, c.s); stem != c.stem || !ok {
			t.Errorf("Match(%q, %q) = %q, %v, want %q, true", c.p, c.s, stem, ok, c.stem)
		}
	}
}

func TestMatchRefuses(t *testing.T) {
	for _, c := range []struct{ p, s string }{
		{"%.o", "a.c"},
		{"%.o", "a.O"},
		{"%.o", "a.o "},
		{"%.o", "o"},
		{"%.o", ""},
		{"lib%", " libc"},
		{"lib%", "Libc"},
		{"lib%", "li"},
		{"src/%.c", "src/a.h"},
		{"src/%.c", "a.c"},
		// shorter than both sides together, though it begins and ends so
		{"a%a", "a"},
		{"ab%ba", "aba"},
		{"aa%aa", "aa"},
		{"aa%aa", "aaa"},
		{"a%a", ""},
		{"x", "xy"},
		{"x", "yx"},
		{"x", ""},
		{"x", "X"},
		{"x", "%"},
		{`a\`, "a"},
		{"*", "a"},
		{"?", "a"},
		{"[ab]", "a"},
		{".", "a"},
		// not right
		{"", ""},
		{"", "x"},
		{"", "%"},
		{"%%", "%%"},
		{"%%", ""},
		{"%%", "x"},
		{"a%b%c", "a%b%c"},
		{"a%b%c", "axbyc"},
		{"%%x", "%x"},
	} {
		if stem, ok := Match(c.p, c.s); stem != "" || ok {
			t.Errorf("Match(%q, %q) = %q, %v", c.p, c.s, stem, ok)
		}
	}
}

// matchAsSaid is G1 word by word: the stem is looked for among all pieces of s.
func matchAsSaid(p, s string) (string, bool) {
	if p == "" || strings.Count(p, "%") > 1 {
		return "", false
	}
	at := strings.IndexByte(p, '%')
	if at < 0 {
		return "", p == s
	}
	for from := range len(s) + 1 {
		for to := from; to <= len(s); to++ {
			if s[:from] == p[:at] && s[to:] == p[at+1:] {
				return s[from:to], true
			}
		}
	}
	return "", false
}

func TestMatchIsWhatIsSaid(t *testing.T) {
	all := texts("ab%", 4)
	for _, p := range all {
		for _, s := range all {
			stem, ok := Match(p, s)
			wantStem, wantOk := matchAsSaid(p, s)
			if stem != wantStem || ok != wantOk {
				t.Errorf("Match(%q, %q) = %q, %v, want %q, %v", p, s, stem, ok, wantStem, wantOk)
			}
		}
	}
}

// G2

func TestFill(t *testing.T) {
	for _, c := range []struct{ p, stem, want string }{
		{"%.o", "a/b", "a/b.o"},
		{"lib%", "c", "libc"},
		{"a%b", "xx", "axxb"},
		{"a%b", "", "ab"},
		{"%", "", ""},
		{"%", "x", "x"},
		{"%", "%", "%"},
		{"a%b", "%", "a%b"},
		{"a%b", "%%", "a%%b"},
		{"a%b", "$1", "a$1b"},
		{"\xff%\x80", "\x00\n", "\xff\x00\n\x80"},
		// not open: as it is
		{"ab", "x", "ab"},
		{"ab", "", "ab"},
		{"", "x", ""},
		{"", "", ""},
		{"%%", "x", "%%"},
		{"%%", "", "%%"},
		{"a%b%c", "x", "a%b%c"},
	} {
		if got := Fill(c.p, c.stem); got != c.want {
			t.Errorf("Fill(%q, %q) = %q, want %q", c.p, c.stem, got, c.want)
		}
	}
}

func TestSubst(t *testing.T) {
	for _, c := range []struct{ p, q, s, want string }{
		{"%.c", "obj/%.o", "x.c", "obj/x.o"},
		{"%.c", "obj/%.o", ".c", "obj/.o"},
		{"%.c", "%", "x.c", "x"},
		{"%", "%", "", ""},
		{"%", "a%b", "", "ab"},
		{"%", "a%b", "%", "a%b"},
		// q is not open
		{"%.c", "y", "x.c", "y"},
		{"%.c", "", "x.c", ""},
		{"%.c", "%%", "x.c", "%%"},
		{"%.c", "%/%", "x.c", "%/%"},
		// p is not open: the stem has no byte
		{"x", "y", "x", "y"},
		{"x", "a%b", "x", "ab"},
		{"x", "%", "x", ""},
		// p does not match
		{"%.c", "z%", "x.h", "x.h"},
		{"%.c", "z", "", ""},
		{"a%a", "z%", "a", "a"},
		{"x", "y", "xx", "xx"},
		{"x", "%%", "%", "%"},
		// p is not right
		{"", "y", "", ""},
		{"", "y", "x", "x"},
		{"%%", "y", "%%", "%%"},
		{"%%", "y%", "x", "x"},
	} {
		if got := Subst(c.p, c.q, c.s); got != c.want {
			t.Errorf("Subst(%q, %q, %q) = %q, want %q", c.p, c.q, c.s, got, c.want)
		}
	}
}

func TestAny(t *testing.T) {
	for _, c := range []struct {
		l    []string
		s    string
		want bool
	}{
		{nil, "", false},
		{nil, "x", false},
		{[]string{}, "x", false},
		{[]string{"x"}, "x", true},
		{[]string{"x"}, "y", false},
		{[]string{"%.o", "%.c"}, "a.o", true},
		{[]string{"%.o", "%.c"}, "a.c", true},
		{[]string{"%.o", "%.c"}, "a.h", false},
		{[]string{"a", "b", "%"}, "", true},
		{[]string{"%", "a"}, "z", true},
		{[]string{"a", "b%", "c"}, "bb", true},
		{[]string{"x", "x"}, "x", true},
		{[]string{"a%a"}, "a", false},
		// those that are not right match nothing, and hide none that does
		{[]string{""}, "", false},
		{[]string{"%%"}, "%%", false},
		{[]string{"", "%%"}, "x", false},
		{[]string{"", "%%", "x"}, "x", true},
		{[]string{"x", "%%", ""}, "x", true},
	} {
		if got := Any(c.l, c.s); got != c.want {
			t.Errorf("Any(%q, %q) = %v", c.l, c.s, got)
		}
	}
}

// G3

func TestAnOpenPatternMatchesWhatItIsFilledWith(t *testing.T) {
	all := append(texts("ab%", 4), "\xff%\x80", "é%", "%\n", "\x00", " \t", "\xff\x80")
	for _, p := range all {
		if !Open(p) {
			continue
		}
		for _, stem := range all {
			if got, ok := Match(p, Fill(p, stem)); got != stem || !ok {
				t.Errorf("Match(%q, Fill of %q) = %q, %v", p, stem, got, ok)
			}
		}
	}
}

func TestWhatIsMatchedFilledWithItsStemIsItself(t *testing.T) {
	all := texts("ab%", 4)
	matched := 0
	for _, p := range all {
		for _, s := range all {
			stem, ok := Match(p, s)
			if !ok {
				continue
			}
			matched++
			if got := Fill(p, stem); got != s {
				t.Errorf("Fill(%q, %q) = %q, want %q", p, stem, got, s)
			}
			if got := Subst(p, p, s); got != s {
				t.Errorf("Subst(%q, %q, %q) = %q", p, p, s, got)
			}
		}
	}
	if matched == 0 {
		t.Error("nothing is matched")
	}
}

// P1 and P3

func TestTheListHandedInIsLeftAlone(t *testing.T) {
	l := []string{"a", "b", "behind"}
	if Any(l[:2], "behind") {
		t.Error("what lies behind the list's length is read")
	}
	if !Any(l[:2], "b") || !slices.Equal(l, []string{"a", "b", "behind"}) {
		t.Errorf("the list is %q now", l)
	}
}

func TestLongTextsEnd(t *testing.T) {
	const many = 1 << 20
	long, holes := strings.Repeat("a", many), strings.Repeat("%", many)
	if Right(holes) || Open(holes) || !Right(long) || Open(long) {
		t.Error("Right, Open")
	}
	if got, ok := Match(holes, holes); got != "" || ok {
		t.Errorf("%d bytes of stem, %v", len(got), ok)
	}
	if got, ok := Match(long+"%"+long, long+long[1:]); got != "" || ok {
		t.Errorf("%d bytes of stem, %v", len(got), ok)
	}
	if got, ok := Match(long+"%"+long, long+holes+long); got != holes || !ok {
		t.Errorf("%d bytes of stem, %v", len(got), ok)
	}
	if got := Fill("a%", holes); got != "a"+holes {
		t.Errorf("%d bytes filled", len(got))
	}
	if got := Fill(holes, long); got != holes {
		t.Errorf("%d bytes filled", len(got))
	}
	if Any(make([]string, many), "") {
		t.Error("Any is true")
	}
}
