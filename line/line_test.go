package line

import (
	"fmt"
	"hash/adler32"
	"slices"
	"strings"
	"testing"

	"cooperage/api"
)

// sealed makes a line of any bytes, right or not, by the library's Adler-32.
func sealed(body string) string {
	return body + fmt.Sprintf("%08x\n", adler32.Checksum([]byte(body)))
}

// every is all 256 bytes, each once.
func every() string {
	b := make([]byte, 256)
	for i := range b {
		b[i] = byte(i)
	}
	return string(b)
}

// texts tells all texts of at most size bytes of an alphabet.
func texts(alphabet string, size int) []string {
	all := []string{""}
	start := 0
	for range size {
		end := len(all)
		for _, s := range all[start:end] {
			for i := range len(alphabet) {
				all = append(all, s+alphabet[i:i+1])
			}
		}
		start = end
	}
	return all
}

func xs(n int) string { return strings.Repeat("x", n) }

func mustPut(t *testing.T, l ...string) string {
	t.Helper()
	s, e := Put(l)
	if s == "" || e != api.OK {
		t.Fatalf("Put(%q) = %q, %v", l, s, e)
	}
	return s
}

func checkTake(t *testing.T, s string, want []string, behind string) {
	t.Helper()
	l, rest, e := Take(s)
	if !slices.Equal(l, want) || rest != behind || e != api.OK {
		t.Errorf("Take(%.60q) = %.60q, %.60q, %v, want %.60q, %.60q", s, l, rest, e, want, behind)
	}
}

func checkTakeErrs(t *testing.T, s string, want api.Errno) {
	t.Helper()
	if l, rest, e := Take(s); len(l) != 0 || rest != "" || e != want {
		t.Errorf("Take(%.60q of %d bytes) = %.60q, %.60q, %v, want %v", s, len(s), l, rest, e, want)
	}
}

func checkScan(t *testing.T, s string, want [][]string, size int) {
	t.Helper()
	if all, n := Scan(s); !slices.EqualFunc(all, want, slices.Equal) || n != size {
		t.Errorf("Scan(%.80q) = %.80q, %d, want %.80q, %d", s, all, n, want, size)
	}
}

// L1: Put

func TestPut(t *testing.T) {
	for _, c := range []struct {
		l    []string
		body string
	}{
		{[]string{"a"}, "a "},
		{[]string{""}, "% "},
		{[]string{"a b"}, "a%20b "},
		{[]string{"a b", "", "c"}, "a%20b % c "},
		{[]string{"", "", ""}, "% % % "},
		{[]string{"a", "a", "a"}, "a a a "},
		{[]string{" "}, "%20 "},
		{[]string{"\n"}, "%0A "},
		{[]string{"%"}, "%25 "},
		{[]string{"a\tb\n", "é"}, "a%09b%0A %C3%A9 "},
		{[]string{"\x00\xff", "_-./+"}, "%00%FF _-./+ "},
		{[]string{"t: a\n\tupper a t\n", "x"}, "t%3A%20a%0A%09upper%20a%20t%0A x "},
	} {
		if got, e := Put(c.l); got != sealed(c.body) || e != api.OK {
			t.Errorf("Put(%q) = %q, %v, want %q", c.l, got, e, sealed(c.body))
		}
	}
	// one line written out, so that no reckoning of the test's own stands between
	if got := mustPut(t, "a"); got != "a 00e40082\n" {
		t.Errorf("Put(a) = %q", got)
	}
}

func TestPutHoldsTheNumberOfTexts(t *testing.T) {
	for _, l := range [][]string{nil, {}, []string{"behind"}[:0]} {
		if s, e := Put(l); s != "" || e != api.ErrArg {
			t.Errorf("Put of no text = %q, %v", s, e)
		}
	}
	for n := 1; n <= 40; n++ {
		if s, e := Put(make([]string, n)); s != sealed(strings.Repeat("% ", n)) || e != api.OK {
			t.Errorf("Put of %d texts = %q, %v", n, s, e)
		}
	}
	for _, n := range []int{41, 42, 80, 1 << 16} {
		if s, e := Put(make([]string, n)); s != "" || e != api.ErrLong {
			t.Errorf("Put of %d texts = %q, %v", n, s, e)
		}
	}
}

func TestPutHoldsTheBytesOfTheLine(t *testing.T) {
	full := slices.Repeat([]string{xs(323)}, 39) // 39 times 324 bytes are 12636
	for _, c := range []struct {
		l    []string
		size int
	}{
		{[]string{xs(12989)}, 12999},
		{[]string{xs(12990)}, 13000},
		{[]string{xs(12991)}, 13001},
		{[]string{xs(12992)}, 13002},
		{[]string{xs(13000)}, 13010},
		{[]string{xs(13001)}, 13011},
		{[]string{strings.Repeat(" ", 4330)}, 13000},
		{[]string{strings.Repeat(" ", 4331)}, 13003},
		{[]string{strings.Repeat(" ", 4329) + "xxx"}, 13000},
		{[]string{strings.Repeat(" ", 4329) + "xxxx"}, 13001},
		{[]string{"", xs(12988)}, 13000},
		{[]string{"", xs(12989)}, 13001},
		{[]string{xs(12988), ""}, 13000},
		{[]string{xs(12989), ""}, 13001},
		{[]string{xs(12990), ""}, 13002},
		{append(slices.Clone(full), xs(354)), 13000},
		{append(slices.Clone(full), xs(355)), 13001},
	} {
		wantErr := api.OK
		if c.size > 13000 {
			wantErr = api.ErrLong
		}
		s, e := Put(c.l)
		if e != wantErr || e == api.OK && len(s) != c.size || e != api.OK && s != "" {
			t.Errorf("Put of a line of %d bytes: %d bytes, %v", c.size, len(s), e)
		}
		if e == api.OK {
			checkTake(t, s, c.l, "")
		}
	}
}

// L1: Take

func TestTake(t *testing.T) {
	for _, c := range []struct {
		body string
		want []string
	}{
		{"a ", []string{"a"}},
		{"% ", []string{""}},
		{"a%20b % c ", []string{"a b", "", "c"}},
		{"%0A %25 ", []string{"\n", "%"}},
		{"%00%FF _-./+ ", []string{"\x00\xff", "_-./+"}},
		{"00e40082 ", []string{"00e40082"}},
		{strings.Repeat("x ", 40), slices.Repeat([]string{"x"}, 40)},
		{strings.Repeat("% ", 40), make([]string, 40)},
	} {
		// of what is behind the byte 10 nothing matters
		for _, behind := range []string{"", "more", "\n", "\n\n", "\x00\xff", sealed("b "), every()} {
			checkTake(t, sealed(c.body)+behind, c.want, behind)
		}
	}
	checkTake(t, "a 00e40082\nrest", []string{"a"}, "rest")
}

func TestTakeErrsShort(t *testing.T) {
	for _, s := range []string{
		"", "a", " ", "a ", "a 00e40082", "a 00000000", "a  ", "%", "\r", "\x00", "\xff",
		strings.TrimSuffix(sealed("a%20b % c "), "\n"),
		xs(12999), xs(13000), xs(13001), xs(1 << 20),
	} {
		checkTakeErrs(t, s, api.ErrShort)
	}
}

func TestTakeErrsFormOfTexts(t *testing.T) {
	for _, body := range []string{
		// no text
		"", " ", "  ", "        ",
		// a blank too few
		"a", "a%20", "a b", "00e40082", "%", "% %",
		// a blank too many
		" a ", "a  ", "a  b ", "  a b ", "a b  ", "%  % ",
		// a blank is the byte 32 alone
		"a\t", "a\tb ", "\ta ", "a \t", "a\r", "a\x00", "a\u00a0", "a \r",
		// no quoted text
		"%2 ", "a%2 ", "%% ", "%20% ", "%0a ", "%c3%a9 ", "%41 ", "%5F ", "%2G ", "a b%2 ", "%2 b ",
		"a:b ", "é ", "\xff ", "\x00 ", "a\x7fb ", "a, ", "a% ", "%a ",
		// too many texts
		strings.Repeat("x ", 41), strings.Repeat("% ", 41), strings.Repeat("x ", 42), strings.Repeat("x ", 5000),
	} {
		checkTakeErrs(t, sealed(body), api.ErrForm)
		// the form is told ahead of the sum, and of all that is behind
		checkTakeErrs(t, body+"00000000\n"+sealed("b "), api.ErrForm)
	}
}

func TestTakeErrsFormOfDigits(t *testing.T) {
	for _, s := range []string{
		// too few of them, or too many
		"\n", "a\n", "a \n", "a 0\n", "a 00e4008\n", "a 0e40082\n", "a e40082\n", "a 00e400820\n", "a 000e40082\n", "a 00e4008200e40082\n",
		"0e40082\n", "00000001\n", "000000001\n",
		// none
		"a 00e4008g\n", "a g0e40082\n", "a 00ez0082\n", "a 00e:0082\n", "a 00e/0082\n", "a 00e@0082\n", "a 00e`0082\n", "a 00e-0082\n", "a 0x0e4008\n",
		"a +0e40082\n", "a 00e\x000082\n", "a 00e\xff0082\n", "a ________\n", "a 00e4é2\n", "a \uff10\uff1182\n",
		// upper letters
		"a 00E40082\n", "a F0e40082\n", "a ABCDEFAB\n", "a abcdeFab\n",
		// blanks about them
		"a 00e40082 \n", "a  00e40082\n", "a 00e4 0082\n", "a 0e40082 \n", "a 00e40082\r\n", "a 00e40082\t\n", "a\t00e40082\n",
	} {
		checkTakeErrs(t, s, api.ErrForm)
		checkTakeErrs(t, s+"\n"+sealed("b "), api.ErrForm)
	}
	checkTakeErrs(t, strings.ToUpper(sealed("z ")), api.ErrForm)
}

func TestTakeErrsFormOfEachByteAmongTheDigits(t *testing.T) {
	for place := range 8 {
		for i := range 256 {
			b := string([]byte{byte(i)})
			digits := "00e40082"[:place] + b + "00e40082"[place+1:]
			want := api.ErrForm
			switch {
			case digits == "00e40082":
				want = api.OK
			case strings.Contains("0123456789abcdef", b):
				want = api.ErrSum
			}
			if l, _, e := Take("a " + digits + "\n"); e != want || (len(l) != 0) != (e == api.OK) {
				t.Errorf("digits %q: %q, %v, want %v", digits, l, e, want)
			}
		}
	}
}

func TestTakeErrsFormOfLongLines(t *testing.T) {
	for _, c := range []struct {
		body string
		size int // of what is ahead of the byte 10
	}{
		{xs(12989) + " ", 12998},
		{xs(12990) + " ", 12999},
		{xs(12991) + " ", 13000},
		{xs(12992) + " ", 13001},
		{strings.Repeat("%20", 4330) + " ", 12999},
		{strings.Repeat("%20", 4330) + "x ", 13000},
		{xs(1<<20) + " ", 1<<20 + 9},
	} {
		s := sealed(c.body)
		if len(s) != c.size+1 {
			t.Fatalf("%d bytes, want %d", len(s), c.size+1)
		}
		unsealed := c.body + "00000000\n"
		if c.size >= 13000 {
			checkTakeErrs(t, s, api.ErrForm)
			checkTakeErrs(t, unsealed, api.ErrForm)
			continue
		}
		if l, rest, e := Take(s + s); len(l) != 1 || rest != s || e != api.OK {
			t.Errorf("%d bytes: %d texts, %d bytes behind, %v", c.size, len(l), len(rest), e)
		}
		checkTakeErrs(t, unsealed, api.ErrSum)
	}
}

func TestTakeErrsSum(t *testing.T) {
	for _, s := range []string{
		"a 00000000\n", "a ffffffff\n", "a 00000001\n", "a 00e40083\n", "a 10e40082\n", "a 008200e4\n", "a 00620062\n", "b 00e40082\n", "% 00e40082\n",
		"a%20b % c 00e40082\n", "a a 00e40082\n",
		strings.Repeat("x ", 40) + "00000000\n",
	} {
		checkTakeErrs(t, s, api.ErrSum)
		checkTakeErrs(t, s+sealed("b "), api.ErrSum)
	}
}

// The bodies are all short ones of an alphabet in which quoted texts are
// written; of these just the ones that Put tells are taken.
func TestTakeTakesJustWhatPutTells(t *testing.T) {
	all := texts("02a\x00\x02 \"", 2)
	all = append(all, "000", "0000", "00000", "aaa", "aaaaa", "a20 ")
	told := map[string][]string{}
	for _, a := range all {
		told[mustPut(t, a)] = []string{a}
		for _, b := range all {
			told[mustPut(t, a, b)] = []string{a, b}
		}
	}
	taken := 0
	for _, body := range texts("%02a ", 6) {
		s := sealed(body)
		l, _, e := Take(s)
		if want, isTold := told[s]; isTold && (!slices.Equal(l, want) || e != api.OK) {
			t.Errorf("Take(%q) = %q, %v, want %q", s, l, e, want)
		}
		if e != api.OK {
			continue
		}
		taken++
		if again := mustPut(t, l...); again != s {
			t.Errorf("Take(%q) = %q, which is put as %q", s, l, again)
		}
	}
	if taken == 0 {
		t.Error("nothing is taken")
	}
}

// L2

func TestScan(t *testing.T) {
	a, b, c := mustPut(t, "a"), mustPut(t, "b", ""), mustPut(t, "\n")
	la, lb, lc := []string{"a"}, []string{"b", ""}, []string{"\n"}
	for _, x := range []struct {
		s    string
		want [][]string
		size int
	}{
		{"", nil, 0},
		{"\n", nil, 0},
		{"a", nil, 0},
		{a, [][]string{la}, len(a)},
		{a + a, [][]string{la, la}, 2 * len(a)},
		{a + b + c, [][]string{la, lb, lc}, len(a + b + c)},
		{a + mustPut(t, "b")[:10], [][]string{la}, 11},
		// it ends at the first line that is not right, whatever is behind
		{a + "\n" + b, [][]string{la}, len(a)},
		{"\n" + a + b, nil, 0},
		{a + "b 00000000\n" + c, [][]string{la}, len(a)},
		{a + sealed("b") + c, [][]string{la}, len(a)},
		{a + b + " " + c, [][]string{la, lb}, len(a + b)},
		{"x" + a + b, nil, 0},
		{"b 00000000\n" + a, nil, 0},
		{a + sealed(strings.Repeat("x ", 41)) + c, [][]string{la}, len(a)},
		{a + sealed(xs(12991)+" ") + c, [][]string{la}, len(a)},
		{a + sealed(xs(12990)+" ") + c, [][]string{la, {xs(12990)}, lc}, len(a) + 13000 + len(c)},
		{a + xs(20000), [][]string{la}, len(a)},
		{a + b + "more", [][]string{la, lb}, len(a + b)},
	} {
		checkScan(t, x.s, x.want, x.size)
	}
}

func TestListsEndWhenNoMoreAreAskedFor(t *testing.T) {
	a, b := mustPut(t, "a"), mustPut(t, "b")
	told := lists(a + b + a)
	for range 2 { // what is told begins anew each time
		n := 0
		for l, behind := range told {
			want, wantBehind := []string{"a"}, b+a
			if n == 1 {
				want, wantBehind = []string{"b"}, a
			}
			if !slices.Equal(l, want) || behind != wantBehind {
				t.Errorf("%q, %q", l, behind)
			}
			n++
			if n == 2 {
				break
			}
		}
	}
}

// L3

func TestTakeOfPutIsWhatWasPut(t *testing.T) {
	all := texts("a% \n", 3)
	all = append(all, every(), "\x00", "\xff\xfe", "é", "00e40082", "a 00e40082\n", strings.Repeat("\xff", 1000))
	for i, s := range all {
		other := all[(i*7+3)%len(all)]
		for _, l := range [][]string{{s}, {s, other}, {other, s, other}, {"", s, ""}} {
			line := mustPut(t, l...)
			if strings.Count(line, "\n") != 1 || !strings.HasSuffix(line, "\n") {
				t.Errorf("Put(%q) = %q is no line", l, line)
			}
			checkTake(t, line, l, "")
			checkTake(t, line+line, l, line)
		}
	}
}

func TestLinesCutAtEveryPlace(t *testing.T) {
	want := [][]string{{"a"}, {"b c", "", "d"}, {"\n"}, {""}, slices.Repeat([]string{"x"}, 40), {every()}}
	whole := ""
	var ends []int
	for _, l := range want {
		whole += mustPut(t, l...)
		ends = append(ends, len(whole))
	}
	for cut := range len(whole) + 1 {
		n, size := 0, 0
		for n < len(ends) && ends[n] <= cut {
			size = ends[n]
			n++
		}
		checkScan(t, whole[:cut], want[:n], size)
	}
}

func TestALineWithAnotherByte(t *testing.T) {
	before, behind := mustPut(t, "before"), mustPut(t, "behind")
	for _, l := range [][]string{{"a"}, {""}, {"", ""}, {"a b", "", "c"}, {"f0", "0f"}, {" %"}, {"\x00\xff", "a/b.c"}, {"00e40082"}} {
		line := mustPut(t, l...)
		for place := range len(line) - 1 {
			for i := range 256 {
				if i == '\n' || byte(i) == line[place] {
					continue
				}
				other := line[:place] + string([]byte{byte(i)}) + line[place+1:]
				if got, rest, e := Take(other); len(got) != 0 || rest != "" || e != api.ErrForm && e != api.ErrSum {
					t.Errorf("Take(%q) = %q, %q, %v", other, got, rest, e)
				}
				checkScan(t, before+other+behind, [][]string{{"before"}}, len(before))
			}
		}
	}
}

func TestALongLineWithAnotherByte(t *testing.T) {
	line := mustPut(t, xs(12990))
	for place := 0; place < len(line)-1; place += 37 {
		other := line[:place] + "y" + line[place+1:]
		checkScan(t, other, nil, 0)
	}
}

// P1 to P4

func TestTheListHandedInIsLeftAlone(t *testing.T) {
	l := []string{"a", "b", "behind"}
	if got := mustPut(t, l[:2]...); got != sealed("a b ") || !slices.Equal(l, []string{"a", "b", "behind"}) {
		t.Errorf("%q, and the list is %q now", got, l)
	}
	line := mustPut(t, l...)
	l[0] = "other"
	checkTake(t, line, []string{"a", "b", "behind"}, "")
}

func TestListsAnsweredAreNew(t *testing.T) {
	s := mustPut(t, "a", "b") + mustPut(t, "a", "b")
	first, _, _ := Take(s)
	first[0] = "other"
	_ = append(first, "more")
	checkTake(t, s, []string{"a", "b"}, mustPut(t, "a", "b"))

	all, _ := Scan(s)
	all[0][0] = "other"
	_ = append(all[0], "more")
	if !slices.Equal(all[1], []string{"a", "b"}) {
		t.Errorf("the second list is %q", all[1])
	}
	_ = append(all, nil)
	checkScan(t, s, [][]string{{"a", "b"}, {"a", "b"}}, len(s))
}

func TestLongInputsEnd(t *testing.T) {
	const many = 1 << 20
	line := mustPut(t, "a")
	if all, n := Scan(strings.Repeat(line, many/4)); len(all) != many/4 || n != many/4*len(line) {
		t.Errorf("%d lists, %d bytes", len(all), n)
	}
	long := strings.Repeat("\n", 1<<24)
	if s, e := Put(slices.Repeat([]string{long}, 40)); s != "" || e != api.ErrLong {
		t.Errorf("%d bytes, %v", len(s), e)
	}
	if s, e := Put(make([]string, many)); s != "" || e != api.ErrLong {
		t.Errorf("%d bytes, %v", len(s), e)
	}
	checkScan(t, long, nil, 0)
	checkTakeErrs(t, strings.Repeat(" ", many), api.ErrShort)
	checkTakeErrs(t, strings.Repeat(" ", many)+"\n", api.ErrForm)
	checkTakeErrs(t, strings.Repeat("% ", many)+"00000000\n", api.ErrForm)
}
