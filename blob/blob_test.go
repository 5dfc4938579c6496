package blob

import (
	"fmt"
	"math"
	"slices"
	"strconv"
	"strings"
	"testing"

	"cooperage/api"
	"cooperage/files"
	"cooperage/journal"
	"cooperage/line"
	"cooperage/sum"
)

// lineOfA is the line of the one text `a`, written out, so that no call stands between.
const lineOfA = "a 00e40082\n"

// far is enough of everything for any crash that is to keep all.
const far = 1 << 20

func made(t *testing.T, room int) *files.Tree {
	t.Helper()
	x, e := files.New(room)
	if x == nil || e != api.OK {
		t.Fatalf("New(%d): %v", room, e)
	}
	return x
}

// with is a tree that has one file, which lasts.
func with(t *testing.T, room int, name, s string) *files.Tree {
	t.Helper()
	x := made(t, room)
	must(t, x.Write(name, s))
	x.Sync()
	return x
}

// must is for what a test needs done.
func must(t *testing.T, errs ...api.Errno) {
	t.Helper()
	for i, e := range errs {
		if e != api.OK {
			t.Fatalf("change %d: error %d", i+1, int(e))
		}
	}
}

func xs(n int) string { return strings.Repeat("x", n) }

// record is the line of one record.
func record(t *testing.T, texts ...string) string {
	t.Helper()
	s, e := line.Put(texts)
	must(t, e)
	return s
}

// fileOf is what the file of a store of these texts has.
func fileOf(t *testing.T, texts ...string) string {
	t.Helper()
	var b strings.Builder
	for _, s := range texts {
		b.WriteString(record(t, s))
	}
	return b.String()
}

// told is all that a tree tells: path, text and time of each file, what is used, what is pending.
func told(x *files.Tree) string {
	var b strings.Builder
	for _, f := range x.All() {
		i, _ := x.Stat(f.Path)
		fmt.Fprintf(&b, "%s=%q@%d ", f.Path, f.Text, i.Time)
	}
	fmt.Fprintf(&b, "%d/%d", x.Used(), x.Pending())
	return b.String()
}

// lasting is what a tree tells behind a crash at once.
func lasting(x *files.Tree) string {
	y := x.Clone()
	y.Crash(0, 0)
	return told(y)
}

// clock is the number of changes that a tree had.
func clock(t *testing.T, x *files.Tree) int {
	t.Helper()
	y := x.Clone()
	gone := len(y.All())
	for _, f := range y.All() { // so that there is room for one more
		y.Remove(f.Path)
	}
	must(t, y.Write("clock", ""))
	i, _ := y.Stat("clock")
	return i.Time - gone - 1
}

// whole is all that may be told of a tree, now and later.
func whole(t *testing.T, x *files.Tree) string {
	t.Helper()
	return fmt.Sprint(told(x), " lasting ", lasting(x), " clock ", clock(t, x))
}

func checkTold(t *testing.T, x *files.Tree, want string) {
	t.Helper()
	if got := told(x); got != want {
		t.Errorf("there is %.300s, want %.300s", got, want)
	}
}

// check sees to it that a store has just these texts, with the numbers from 1 on.
func check(t *testing.T, s *Store, texts ...string) {
	t.Helper()
	if s.Len() != len(texts) {
		t.Errorf("Len() = %d, want %d", s.Len(), len(texts))
	}
	for i, text := range texts {
		if a, ok := s.Text(i + 1); a != text || !ok {
			t.Errorf("Text(%d) = %.40q, %v, want %.40q", i+1, a, ok, text)
		}
		if n := s.Find(text); n != i+1 {
			t.Errorf("Find(%.40q) = %d, want %d", text, n, i+1)
		}
	}
	for _, n := range []int{0, -1, len(texts) + 1, math.MinInt, math.MaxInt, -len(texts)} {
		if a, ok := s.Text(n); a != "" || ok {
			t.Errorf("Text(%d) = %.40q, %v", n, a, ok)
		}
	}
	checkNone(t, s, "none of the texts")
}

// checkNone sees to it that texts have no number.
func checkNone(t *testing.T, s *Store, texts ...string) {
	t.Helper()
	for _, text := range texts {
		if n := s.Find(text); n != 0 {
			t.Errorf("Find(%.40q) = %d, want 0", text, n)
		}
	}
}

// checkOpen sees to it that Open tells these texts, and that behind it the file has no others, and all lasts.
func checkOpen(t *testing.T, x *files.Tree, name string, texts ...string) *Store {
	t.Helper()
	s, e := Open(x, name)
	if s == nil || e != api.OK {
		t.Fatalf("Open(%.40q): %v, %d", name, s, int(e))
	}
	check(t, s, texts...)
	if bytes, _ := x.Read(name); bytes != fileOf(t, texts...) {
		t.Errorf("Open(%.40q) leaves %.200q, want the records of %.200q", name, bytes, texts)
	}
	if _, e := x.Read(journal.Beside(name)); e != api.ErrNone {
		t.Errorf("Open(%.40q) leaves a file beside", name)
	}
	if x.Pending() != 0 || lasting(x) != told(x) {
		t.Errorf("Open(%.40q) leaves %d changes that do not last", name, x.Pending())
	}
	return s
}

// checkOpenErrs sees to it that Open errs so, and answers no store beside.
func checkOpenErrs(t *testing.T, x *files.Tree, name string, want api.Errno) {
	t.Helper()
	if s, e := Open(x, name); s != nil || e != want {
		t.Errorf("Open(%.40q) = %v, %d, want %d", name, s, int(e), int(want))
	}
}

func checkId(t *testing.T, s *Store, text string, want int) {
	t.Helper()
	if n, e := s.Id(text); n != want || e != api.OK {
		t.Errorf("Id(%.40q) = %d, %d, want %d", text, n, int(e), want)
	}
}

// checkIdErrs sees to it that Id errs so, and leaves the store and its tree alone.
func checkIdErrs(t *testing.T, x *files.Tree, s *Store, text string, want api.Errno) {
	t.Helper()
	before, count := whole(t, x), s.Len()
	if n, e := s.Id(text); n != 0 || e != want {
		t.Errorf("Id(%.40q) = %d, %d, want error %d", text, n, int(e), int(want))
	}
	if after := whole(t, x); after != before {
		t.Errorf("Id(%.40q) leaves %.300s, was %.300s", text, after, before)
	}
	checkNone(t, s, text)
	if a, ok := s.Text(count + 1); s.Len() != count || a != "" || ok {
		t.Errorf("Id(%.40q) leaves %d texts, were %d; behind them %.40q", text, s.Len(), count, a)
	}
}

// addAll gives numbers to texts that have none, in order.
func addAll(t *testing.T, s *Store, texts ...string) {
	t.Helper()
	for _, text := range texts {
		checkId(t, s, text, s.Len()+1)
	}
}

// badNames are names whose Beside is no path, of each kind.
func badNames() []string {
	return []string{"/", "/a", "a//b", "a//", "./a", "../a", "a/../b", "a b", "a\n", "a%20", "\x00", "é", xs(97), xs(1 << 20), "a/b/c/d/e/f/g/h/i"}
}

// oddNames are names that are no path, while Beside is one.
func oddNames() []string {
	return []string{"", ".", "..", "a/", "a/b/", "a/.", "a/.."}
}

// B1: Open

func TestOpenWhereThereIsNoFile(t *testing.T) {
	x := made(t, 100)
	must(t, x.Write("d/k", lineOfA), x.Write("other", "o"))
	for _, name := range []string{"b", "d", "other/b", xs(96), "b.new", "a/b/c/d/e/f/g/h"} {
		checkNone(t, checkOpen(t, x, name), "", "a", "o")
	}
	checkTold(t, x, fmt.Sprintf(`d/k=%q@1 other="o"@2 12/0`, lineOfA))
}

func TestOpenOfAFileOfNoByte(t *testing.T) {
	x := with(t, 100, "b", "")
	checkNone(t, checkOpen(t, x, "b"), "", "a")
	checkTold(t, x, `b=""@1 0/0`)
	addAll(t, checkOpen(t, x, "b"), "", "a")
	checkOpen(t, x, "b", "", "a")
}

func TestOpen(t *testing.T) {
	if fileOf(t, "a") != lineOfA {
		t.Fatal(fileOf(t, "a"))
	}
	for _, texts := range [][]string{{"a"}, {""}, {"a", "b c", ""}, {"", "a"}, {"b", "a", "A"}, {"a", "aa", "a ", " a", "a\n", "\n"}, {xs(12990), "%", "%20", " "}} {
		x := made(t, 1<<20)
		must(t, x.Write("other", "o"), x.Write("d/b", fileOf(t, texts...)))
		want := fmt.Sprintf("d/b=%q@2 other=\"o\"@1 %d/0", fileOf(t, texts...), len(fileOf(t, texts...))+1)
		checkOpen(t, x, "d/b", texts...)
		// a file of nothing but right records is not written anew
		checkTold(t, x, want)
		checkOpen(t, x, "d/b", texts...)
		checkTold(t, x, want)
		if clock(t, x) != 2 {
			t.Error(clock(t, x))
		}
	}
}

func TestOpenCutsOffWhatIsTorn(t *testing.T) {
	ab := fileOf(t, "a", "b c")
	for _, c := range []struct {
		s    string
		want []string
	}{
		{"torn", nil},
		{"\n", nil},
		{lineOfA[:5], nil},
		{"x" + ab, nil},
		{ab + "torn", []string{"a", "b c"}},
		{ab + "\n" + fileOf(t, "d"), []string{"a", "b c"}},
		{ab[:len(ab)-1], []string{"a"}},
		{lineOfA + "b 00e40082\n" + fileOf(t, "b"), []string{"a"}},
	} {
		x := with(t, 200, "b", c.s)
		s := checkOpen(t, x, "b", c.want...)
		addAll(t, s, "new")
		checkOpen(t, x, "b", append(slices.Clone(c.want), "new")...)
	}
}

func TestOpenAtEachCut(t *testing.T) {
	texts := []string{"a", "b c", "", "\n%\xff", "last"}
	s := fileOf(t, texts...)
	for cut := range len(s) + 1 {
		checkOpen(t, with(t, 200, "b", s[:cut]), "b", texts[:strings.Count(s[:cut], "\n")]...)
	}
}

func TestOpenRemovesTheFileBeside(t *testing.T) {
	x := with(t, 100, "b", lineOfA)
	must(t, x.Write("b.new", fileOf(t, "left")))
	checkOpen(t, x, "b", "a")
	checkTold(t, x, fmt.Sprintf("b=%q@1 11/0", lineOfA))
	must(t, x.Write("c.new", fileOf(t, "left")))
	checkOpen(t, x, "c")
	checkTold(t, x, fmt.Sprintf("b=%q@1 11/0", lineOfA))
}

// B1: records that are left out

func TestOpenLeavesOutFromTheFirstThatIsNotRight(t *testing.T) {
	a, bs, none, two := lineOfA, fileOf(t, "b"), fileOf(t, ""), record(t, "c", "d")
	for _, c := range []struct {
		s    string
		want []string
	}{
		// two texts, or more: the first record, in the middle, the last one
		{two, nil},
		{two + a + bs, nil},
		{two + two, nil},
		{a + two, []string{"a"}},
		{a + two + bs, []string{"a"}},
		{a + bs + two + none, []string{"a", "b"}},
		{record(t, "", ""), nil},
		{record(t, "a", "") + a, nil},
		{a + record(t, "", "b") + bs, []string{"a"}},
		{a + record(t, slices.Repeat([]string{"x"}, 40)...) + bs, []string{"a"}},
		{a + record(t, "a", "b"), []string{"a"}},
		// texts that were told before: at once behind, later
		{a + a, []string{"a"}},
		{a + a + bs, []string{"a"}},
		{none + none, []string{""}},
		{none + a + none + bs, []string{"", "a"}},
		{a + bs + a + none, []string{"a", "b"}},
		{a + bs + bs + bs, []string{"a", "b"}},
		{a + bs + none + a, []string{"a", "b", ""}},
		// what is behind, wrong too
		{a + a + two + bs, []string{"a"}},
		{a + two + a + two, []string{"a"}},
		// and torn behind
		{two + "torn", nil},
		{a + two + bs + "torn", []string{"a"}},
		{a + bs + a + bs[:len(bs)-1], []string{"a", "b"}},
	} {
		for _, beside := range []string{"", "left"} {
			x := with(t, 1000, "b", c.s)
			if beside != "" {
				must(t, x.Write("b.new", beside))
			}
			s := checkOpen(t, x, "b", c.want...)
			for _, gone := range []string{"", "a", "b", "c", "d", "x"} {
				if !slices.Contains(c.want, gone) {
					checkNone(t, s, gone)
				}
			}
			checkOpen(t, x, "b", c.want...)
		}
	}
}

func TestOpenWritesAnewOnceWhereRecordsAreLeftOut(t *testing.T) {
	s := lineOfA + record(t, "c", "d") + fileOf(t, "b")
	x := with(t, 1000, "b", s)
	must(t, x.Write("other", "o"))
	checkOpen(t, x, "b", "a")
	// two changes: the write, whose time the file keeps, and the rename
	checkTold(t, x, fmt.Sprintf("b=%q@3 other=\"o\"@2 12/0", lineOfA))
	if clock(t, x) != 4 {
		t.Error(clock(t, x))
	}
	// with something torn behind, the journal is written anew ahead of that
	y := with(t, 1000, "b", s+"torn")
	checkOpen(t, y, "b", "a")
	checkTold(t, y, fmt.Sprintf("b=%q@4 11/0", lineOfA))
	if clock(t, y) != 5 {
		t.Error(clock(t, y))
	}
}

func TestWhatWasLeftOutHasNewNumbers(t *testing.T) {
	x := with(t, 1000, "b", lineOfA+record(t, "c", "d")+fileOf(t, "b", "e"))
	s := checkOpen(t, x, "b", "a")
	addAll(t, s, "e", "d", "b")
	checkId(t, s, "a", 1)
	checkOpen(t, x, "b", "a", "e", "d", "b")
}

// B1: errors of Open

func TestOpenErrsOfNames(t *testing.T) {
	x := made(t, 1000)
	must(t, x.Write("a", lineOfA+lineOfA), x.Write("a.new", "left"), x.Write(xs(97), lineOfA))
	before := whole(t, x)
	for _, name := range badNames() {
		checkOpenErrs(t, x, name, api.ErrArg)
	}
	if after := whole(t, x); after != before {
		t.Errorf("there is %s, was %s", after, before)
	}
}

func TestOpenErrsWhereTheJournalDoes(t *testing.T) {
	// no room to write anew what is torn
	x := with(t, 40, "b", fileOf(t, "a", "b"))
	must(t, x.Append("b", "torn"))
	before := whole(t, x)
	checkOpenErrs(t, x, "b", api.ErrFull)
	if after := whole(t, x); after != before {
		t.Errorf("there is %s, was %s", after, before)
	}
	// something in the way of what is beside
	y := with(t, 100, "b.new/x", "")
	must(t, y.Write("b", lineOfA+"torn"))
	before = whole(t, y)
	checkOpenErrs(t, y, "b", api.ErrThere)
	if after := whole(t, y); after != before {
		t.Errorf("there is %s, was %s", after, before)
	}
}

func TestOpenErrsOfTheAnewBehindTheJournal(t *testing.T) {
	s := fileOf(t, "a", "b") + record(t, "c", "d")
	for _, other := range []struct {
		path string
		size int
		want api.Errno
	}{{"o", 1000 - 2*22 - 13 + 1, api.ErrFull}, {"b.new/x", 1, api.ErrThere}} {
		x := made(t, 1000)
		must(t, x.Write("b", s), x.Write(other.path, xs(other.size)))
		checkOpenErrs(t, x, "b", other.want)
		// the journal was opened, so all lasts; the file is as it was
		want := fmt.Sprintf("b=%q@1 %s=%q@2 %d/0", s, other.path, xs(other.size), 35+other.size)
		checkTold(t, x, want)
		if lasting(x) != want || clock(t, x) != 2 {
			t.Errorf("lasting: %.200s; the clock is %d", lasting(x), clock(t, x))
		}
		checkOpenErrs(t, x, "b", other.want)
		must(t, x.Remove(other.path), x.Write("o", xs(1000-2*22-13)))
		checkOpen(t, x, "b", "a", "b")
	}
}

func TestOpenWhereThereAreManyFiles(t *testing.T) {
	x := with(t, 1000, "b", fileOf(t, "a", "a"))
	for i := range api.MaxFiles - 1 {
		must(t, x.Write(fmt.Sprint("f", i), ""))
	}
	checkOpenErrs(t, x, "b", api.ErrFull)
	checkOpen(t, x, "f7")
	must(t, x.Remove("f7"))
	checkOpen(t, x, "b", "a")
}

// B1: Find, Text, Len

func TestFindIsOfWholeTexts(t *testing.T) {
	x := made(t, 1000)
	s := checkOpen(t, x, "b")
	checkNone(t, s, "", "a", xs(1<<20), "\x00")
	addAll(t, s, "ab", "a%20b", "é", "a\n")
	checkNone(t, s, "", "a", "b", "abc", "AB", "ab ", " ab", "a b", "a", "e", "\xc3", "\xa9", "a\n\n", "ab\x00", xs(1<<20))
	check(t, s, "ab", "a%20b", "é", "a\n")
}

func TestTextOfNumbersThatWereNotTold(t *testing.T) {
	for _, texts := range [][]string{nil, {""}, {"a", "b"}} {
		s := checkOpen(t, with(t, 100, "b", fileOf(t, texts...)), "b", texts...)
		for _, n := range []int{-2, len(texts) + 2, 1 << 16, 1 << 31, 1 << 32, 1<<32 + 1, -1 << 32, math.MinInt + 1, math.MaxInt - 1} {
			if a, ok := s.Text(n); a != "" || ok {
				t.Errorf("Text(%d) = %q, %v", n, a, ok)
			}
		}
	}
}

func TestAskingChangesNothing(t *testing.T) {
	x := made(t, 1000)
	s := checkOpen(t, x, "b")
	addAll(t, s, "a", "")
	before := whole(t, x)
	checkNone(t, s, "b", "b", "c")
	check(t, s, "a", "")
	if after := whole(t, x); after != before {
		t.Errorf("there is %s, was %s", after, before)
	}
	checkId(t, s, "b", 3)
}

// B2: Id

func TestId(t *testing.T) {
	x := made(t, 1<<20)
	s := checkOpen(t, x, "d/b")
	texts := []string{"a", "", "b c", "A", "\n", "%", "%20", " ", "a ", "\x00", "\xff", "1", xs(12990), every()}
	for i, text := range texts {
		checkId(t, s, text, i+1)
		check(t, s, texts[:i+1]...)
		want := fileOf(t, texts[:i+1]...)
		// one record more, that does not last yet
		checkTold(t, x, fmt.Sprintf("d/b=%q@%d %d/%d", want, i+1, len(want), i+1))
		if lasting(x) != "0/0" {
			t.Errorf("lasting: %.200s", lasting(x))
		}
	}
	before := whole(t, x)
	for i, text := range slices.Backward(texts) {
		checkId(t, s, text, i+1)
	}
	check(t, s, texts...)
	if after := whole(t, x); after != before {
		t.Errorf("Id of texts that have numbers leaves %.300s, was %.300s", after, before)
	}
	checkOpen(t, x, "d/b", texts...)
}

// every is all 256 bytes, each once.
func every() string {
	b := make([]byte, 256)
	for i := range b {
		b[i] = byte(i)
	}
	return string(b)
}

func TestTheEmptyTextHasANumber(t *testing.T) {
	x := made(t, 100)
	s := checkOpen(t, x, "b")
	checkNone(t, s, "")
	checkId(t, s, "", 1)
	checkId(t, s, "", 1)
	check(t, s, "")
	checkId(t, s, "a", 2)
	checkId(t, checkOpen(t, x, "b", "", "a"), "", 1)
	checkTold(t, x, fmt.Sprintf("b=%q@2 22/0", fileOf(t, "", "a")))
}

func TestIdSyncsNothingOpenDoes(t *testing.T) {
	x := made(t, 100)
	must(t, x.Write("other", "o"))
	s := checkOpen(t, x, "b")
	if x.Pending() != 0 || lasting(x) != `other="o"@1 1/0` {
		t.Error(told(x), lasting(x))
	}
	addAll(t, s, "a", "b")
	checkId(t, s, "a", 1)
	if x.Pending() != 2 || lasting(x) != `other="o"@1 1/0` {
		t.Error(told(x), lasting(x))
	}
	x.Sync()
	addAll(t, s, "c")
	if x.Pending() != 1 || lasting(x) != fmt.Sprintf(`b=%q@3 other="o"@1 23/0`, fileOf(t, "a", "b")) {
		t.Error(told(x), lasting(x))
	}
	checkOpen(t, x, "b", "a", "b", "c")
}

func TestIdOfTextsThatAreTooLong(t *testing.T) {
	x := made(t, 1<<20)
	s := checkOpen(t, x, "b")
	addAll(t, s, "a")
	for _, text := range []string{xs(12991), strings.Repeat(" ", 4331), xs(1 << 20), strings.Repeat("\n", 1<<20)} {
		checkIdErrs(t, x, s, text, api.ErrLong)
		checkIdErrs(t, x, s, text, api.ErrLong)
		checkId(t, s, "a", 1)
		addAll(t, s, fmt.Sprint("next ", s.Len()))
	}
	addAll(t, s, xs(12990), strings.Repeat(" ", 4330))
	checkOpen(t, x, "b", "a", "next 1", "next 2", "next 3", "next 4", xs(12990), strings.Repeat(" ", 4330))
}

func TestIdWhereThereIsNoRoom(t *testing.T) {
	x := made(t, 33)
	s := checkOpen(t, x, "b")
	addAll(t, s, "a", "b")
	checkIdErrs(t, x, s, "cd", api.ErrFull)
	checkIdErrs(t, x, s, xs(12990), api.ErrFull)
	checkIdErrs(t, x, s, xs(12991), api.ErrLong)
	addAll(t, s, "c")
	checkIdErrs(t, x, s, "d", api.ErrFull)
	checkIdErrs(t, x, s, "", api.ErrFull)
	// a text that has a number needs no room
	checkId(t, s, "b", 2)
	checkId(t, s, "c", 3)
	checkOpen(t, x, "b", "a", "b", "c")
}

func TestIdErrsOfTheTree(t *testing.T) {
	// too many files
	x := made(t, 1000)
	s := checkOpen(t, x, "b")
	for i := range api.MaxFiles {
		must(t, x.Write(fmt.Sprint("f", i), ""))
	}
	checkIdErrs(t, x, s, "a", api.ErrFull)
	must(t, x.Remove("f7"))
	addAll(t, s, "a")
	checkOpen(t, x, "b", "a")
	// a path in the way
	y := made(t, 1000)
	must(t, y.Write("d/k", ""), y.Write("e", ""))
	for _, name := range []string{"d", "e/b", "d/k/b"} {
		s := checkOpen(t, y, name)
		checkIdErrs(t, y, s, "a", api.ErrThere)
		checkIdErrs(t, y, s, xs(12991), api.ErrLong)
	}
}

func TestIdWhereTheFileIsFull(t *testing.T) {
	var b strings.Builder
	for i := range 1290 { // of 13000 bytes each
		b.WriteString(record(t, fmt.Sprintf("%04d", i)+xs(12986)))
	}
	x := with(t, 1<<30, "b", b.String())
	s, e := Open(x, "b")
	must(t, e)
	left := api.MaxFile - 1290*13000 - 10
	for _, c := range []struct {
		text string
		want int
		err  api.Errno
	}{{xs(left + 1), 0, api.ErrLong}, {xs(left), 1291, api.OK}, {"a", 0, api.ErrLong}, {xs(left), 1291, api.OK}, {"", 0, api.ErrLong}} {
		if n, e := s.Id(c.text); n != c.want || e != c.err || s.Find(c.text) != c.want {
			t.Errorf("Id(%.40q) = %d, %d, want %d, %d", c.text, n, int(e), c.want, int(c.err))
		}
	}
	if i, _ := x.Stat("b"); i.Size != api.MaxFile || s.Len() != 1291 {
		t.Error(i, s.Len())
	}
	r, e := Open(x, "b")
	if e != api.OK || r.Len() != 1291 || r.Find("0007"+xs(12986)) != 8 || r.Find(xs(left)) != 1291 {
		t.Error(r.Len(), e)
	}
}

// A name that is no path, while what is beside would be one, is told by the tree, as late as that is asked.
func TestOddNames(t *testing.T) {
	x := with(t, 100, "c", lineOfA)
	for _, name := range oddNames() {
		s := checkOpen(t, x, name)
		checkIdErrs(t, x, s, "a", api.ErrArg)
		checkIdErrs(t, x, s, xs(12991), api.ErrLong)
	}
}

// B3: two texts have one number just if they are one

func TestTextsAreHeldAgainstEachOtherAndNoSums(t *testing.T) {
	// each three bytes with the same sum as the other three
	pairs := [][2]string{{"bbb", "c`c"}, {"xbbby", "xc`cy"}, {"b b", "c\x1ec"}}
	x := made(t, 1000)
	s := checkOpen(t, x, "b")
	var texts []string
	for _, p := range pairs {
		if sum.Of(p[0]) != sum.Of(p[1]) || p[0] == p[1] {
			t.Fatal(p)
		}
		checkId(t, s, p[0], len(texts)+1)
		checkNone(t, s, p[1])
		checkId(t, s, p[1], len(texts)+2)
		texts = append(texts, p[0], p[1])
	}
	check(t, s, texts...)
	checkOpen(t, x, "b", texts...)
}

func TestOneNumberJustIfOneText(t *testing.T) {
	x := made(t, 1<<24)
	s := checkOpen(t, x, "b")
	const bytes = "\x00 %a\xff"
	texts := []string{""}
	for i := 0; len(texts[i]) < 4; i++ {
		for j := range len(bytes) {
			texts = append(texts, texts[i]+bytes[j:j+1])
		}
	}
	for i, text := range texts {
		checkId(t, s, text, i+1)
		checkId(t, s, texts[i/2], i/2+1)
	}
	for i, text := range texts {
		checkId(t, s, text, i+1)
	}
	checkOpen(t, x, "b", texts...)
}

// B3: a crash behind some Ids

func TestCrashAtEveryPlaceBehindIds(t *testing.T) {
	texts := []string{"a", "b c", "", "\n%\xff", "last"}
	for synced := range len(texts) + 1 {
		x := made(t, 1000)
		s := checkOpen(t, x, "b")
		addAll(t, s, texts[:synced]...)
		x.Sync()
		addAll(t, s, texts[synced:]...)
		for many := -1; many <= len(texts)-synced+1; many++ {
			kept := min(synced+max(many, 0), len(texts))
			next := ""
			if kept < len(texts) {
				next = fileOf(t, texts[kept])
			}
			for part := -1; part <= len(next)+1; part++ {
				y := x.Clone()
				y.Crash(many, part)
				there := kept
				if next != "" && part >= len(next) {
					there++
				}
				checkGoesOn(t, y, texts[:there], texts[there:])
			}
		}
	}
}

// checkGoesOn sees to it that behind a crash the texts that are there have the numbers that they had,
// that those that are gone have none, and that a new one, and these anew, are given the next ones.
func checkGoesOn(t *testing.T, x *files.Tree, there, gone []string) {
	t.Helper()
	s := checkOpen(t, x, "b", there...)
	checkNone(t, s, gone...)
	all := slices.Concat(there, []string{"new"}, gone)
	addAll(t, s, all[len(there):]...)
	for i, text := range there {
		checkId(t, s, text, i+1)
	}
	x.Crash(1, 3) // keeps the new one, and tears what is behind it
	checkOpen(t, x, "b", all[:len(there)+1]...)
}

func TestNoCrashBehindASyncTakesAnything(t *testing.T) {
	x := made(t, 1000)
	s := checkOpen(t, x, "b")
	addAll(t, s, "a", "", "c")
	x.Sync()
	x.Crash(0, 0)
	check(t, s, "a", "", "c")
	addAll(t, checkOpen(t, x, "b", "a", "", "c"), "d")
	checkOpen(t, x, "b", "a", "", "c", "d")
	x.Crash(0, 0)
	checkOpen(t, x, "b", "a", "", "c", "d")
}

// What is left out is written anew by a rename: a crash in its midst leaves a file of which Open tells the same.
func TestCrashAtEveryPlaceOfOpen(t *testing.T) {
	s := fileOf(t, "a", "b") + record(t, "c", "d") + fileOf(t, "e")
	steps := with(t, 1000, "b", s)
	must(t, steps.Write("b.new", fileOf(t, "a", "b")), steps.Rename("b.new", "b"))
	for many := range 4 {
		for part := range 25 {
			y := steps.Clone()
			y.Crash(many, part)
			checkGoesOn(t, y, []string{"a", "b"}, []string{"c", "d", "e"})
		}
	}
	// and these are the steps of Open
	x := with(t, 1000, "b", s)
	checkOpen(t, x, "b", "a", "b")
	steps.Sync()
	if whole(t, x) != whole(t, steps) {
		t.Errorf("Open leaves %s, its steps %s", whole(t, x), whole(t, steps))
	}
}

// B1 to B3: all ways of a few steps

// world is a store, and what the promises say of it: the texts that last, and those told since.
type world struct {
	x          *files.Tree
	s          *Store
	kept, told []string
}

func (w *world) all() []string { return slices.Concat(w.kept, w.told) }

func (w *world) id(t *testing.T, text string) {
	i := slices.Index(w.all(), text)
	if i < 0 {
		i = len(w.all())
		w.told = append(w.told, text)
	}
	checkId(t, w.s, text, i+1)
}

func (w *world) open(t *testing.T) {
	w.kept, w.told = w.all(), nil
	w.s = checkOpen(t, w.x, "b", w.kept...)
}

// crash has part of 11 bytes or more, or of fewer: each line here has 11.
func (w *world) crash(t *testing.T, many, part int) {
	w.x.Crash(many, part)
	if part >= 11 {
		many++
	}
	w.told = w.told[:min(many, len(w.told))]
	w.open(t)
}

func ways(t *testing.T) map[string]func(*world) {
	all := map[string]func(*world){
		"open": func(w *world) { w.open(t) },
		"sync": func(w *world) { w.x.Sync(); w.kept, w.told = w.all(), nil },
	}
	for _, text := range []string{"", "a", "b"} {
		all["id "+text] = func(w *world) { w.id(t, text) }
	}
	for _, c := range [][2]int{{0, 0}, {0, 5}, {0, 11}, {1, 0}, {1, 10}, {far, far}} {
		all[fmt.Sprint("crash", c)] = func(w *world) { w.crash(t, c[0], c[1]) }
	}
	return all
}

func TestAllShortWays(t *testing.T) {
	all := ways(t)
	var walk func(did []string)
	walk = func(did []string) {
		w := &world{x: made(t, 1000)}
		w.open(t)
		for _, name := range did {
			all[name](w)
		}
		check(t, w.s, w.all()...)
		if s, _ := w.x.Read("b"); s != fileOf(t, w.all()...) || w.x.Pending() != len(w.told) {
			t.Errorf("there is %s, want the texts %q and %q", told(w.x), w.kept, w.told)
		}
		if t.Failed() {
			t.Fatal(did)
		}
		if len(did) < 4 {
			for name := range all {
				walk(append(slices.Clone(did), name))
			}
		}
	}
	walk(nil)
}

// A store that is opened twice.

func TestAStoreOpenedAnewTellsTheSame(t *testing.T) {
	x := made(t, 1000)
	var texts []string
	for i := range 20 {
		s := checkOpen(t, x, "b", texts...)
		r := checkOpen(t, x, "b", texts...)
		texts = append(texts, fmt.Sprint("text ", i))
		addAll(t, s, texts[i])
		checkNone(t, r, texts[i]) // it is of the records that it was opened on
		check(t, r, texts[:i]...)
	}
	checkOpen(t, x.Clone(), "b", texts...)
}

// Of two that both give a number to one text the second one's record is left out, and all behind it.
func TestTwoThatAreOpenAtOnce(t *testing.T) {
	x := made(t, 1000)
	s, r := checkOpen(t, x, "b"), checkOpen(t, x, "b")
	addAll(t, s, "a")
	addAll(t, r, "b", "a")
	addAll(t, s, "c")
	check(t, s, "a", "c")
	check(t, r, "b", "a")
	checkOpen(t, x, "b", "a", "b")
}

// Two stores in one tree.

func TestTwoStores(t *testing.T) {
	ones, twos := []string{"1", "both", "111"}, []string{"both", "22", "1"}
	x := made(t, 1000)
	one, two := checkOpen(t, x, "one"), checkOpen(t, x, "two")
	ends := []int{0} // of the lines, by turns
	for i := range ones {
		addAll(t, one, ones[i])
		addAll(t, two, twos[i])
		ends = append(ends, len(fileOf(t, ones[i])), len(fileOf(t, twos[i])))
	}
	for many := range 7 {
		for part := range 16 {
			y := x.Clone()
			y.Crash(many, part)
			kept := many
			if many < 6 && part >= ends[many+1] {
				kept++
			}
			z := y.Clone()
			checkOpen(t, y, "one", ones[:(kept+1)/2]...)
			checkOpen(t, y, "two", twos[:kept/2]...)
			checkOpen(t, z, "two", twos[:kept/2]...)
			checkOpen(t, z, "one", ones[:(kept+1)/2]...)
		}
	}
	check(t, one, ones...)
	check(t, two, twos...)
}

// The sync of one is a sync of the tree: what the other one told lasts with it.
func TestTwoStoresShareTheSync(t *testing.T) {
	x := made(t, 1000)
	one, two := checkOpen(t, x, "d/one"), checkOpen(t, x, "d/two")
	addAll(t, one, "1")
	addAll(t, two, "2", "22")
	checkOpen(t, x, "d/one", "1")
	x.Crash(0, 0)
	checkOpen(t, x, "d/two", "2", "22")
	// what is left out of one is of no weight to the other
	must(t, journal.Add(x, "d/one", []string{"1"}))
	checkOpen(t, x, "d/two", "2", "22")
	if l, isAll := journal.Read(x, "d/one"); len(l) != 2 || !isAll {
		t.Error(l, isAll)
	}
	checkOpen(t, x, "d/one", "1")
	checkOpen(t, x, "d/two", "2", "22")
}

// P1, P4

func TestNoTree(t *testing.T) {
	for _, name := range slices.Concat([]string{"b", "d/b"}, badNames(), oddNames()) {
		checkOpenErrs(t, nil, name, api.ErrArg)
	}
	var s Store // that Open did not make
	for _, text := range []string{"", "a", xs(12991)} {
		if n, e := s.Id(text); n != 0 || e != api.ErrArg {
			t.Error(n, e)
		}
	}
	check(t, &s)
}

func TestATreeOfNoRoom(t *testing.T) {
	x := new(files.Tree)
	s := checkOpen(t, x, "b")
	checkIdErrs(t, x, s, "", api.ErrFull)
	check(t, s)
}

func TestStoresHangOnWhatWasDoneAlone(t *testing.T) {
	x, y := made(t, 400), made(t, 400)
	one, two := checkOpen(t, x, "b"), checkOpen(t, y, "b")
	for i := range 3000 {
		do := func(x *files.Tree, s **Store) string {
			n, e := 0, api.OK
			switch i * i % 13 {
			case 3:
				*s, e = Open(x, "b")
			case 4:
				x.Crash(i%4, i%13)
				*s, e = Open(x, "b")
			case 9:
				e = journal.Add(x, "b", []string{"twice"})
			case 10:
				x.Remove("b")
				*s, e = Open(x, "b")
			default:
				n, e = (*s).Id(strconv.Itoa(i % 37))
			}
			if *s == nil {
				t.Fatal(i, e)
			}
			return fmt.Sprint(n, e, (*s).texts, told(x))
		}
		if a, b := do(x, &one), do(y, &two); a != b {
			t.Fatal(i, a, b)
		}
	}
}

func TestManyTexts(t *testing.T) {
	const count = 1 << 17
	x := made(t, 1<<30)
	s := checkOpen(t, x, "b")
	for i := range count {
		if n, e := s.Id(strconv.Itoa(i)); n != i+1 || e != api.OK {
			t.Fatal(i, n, e)
		}
	}
	x.Crash(count-1, 10)
	s, e := Open(x, "b")
	if e != api.OK || s.Len() != count-1 || s.Find("7") != 8 || s.Find(strconv.Itoa(count-1)) != 0 {
		t.Error(s.Len(), e)
	}
	if a, ok := s.Text(count - 1); a != strconv.Itoa(count-2) || !ok {
		t.Error(a, ok)
	}
}

// The example of the chapter.

func TestExample(t *testing.T) {
	s := checkOpen(t, made(t, 100), "b")
	checkId(t, s, "a", 1)
	checkId(t, s, "b", 2)
	checkId(t, s, "a", 1)
	if a, ok := s.Text(2); a != "b" || !ok {
		t.Error(a, ok)
	}
}
