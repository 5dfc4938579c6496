package journal

import (
	"fmt"
	"math"
	"slices"
	"strings"
	"testing"

	"cooperage/api"
	"cooperage/files"
	"cooperage/line"
)

// lineOfA is the line of the one text `a`, written out, so that no call stands between.
const lineOfA = "a 00e40082\n"

// far is enough of everything for any crash that is to keep all.
const far = 1 << 20

func made(t *testing.T, room int) *files.Tree {
	t.Helper()
	x, e := files.New(room)
	if x == nil || e != api.OK {
		t.Fatalf("New(%d): %v", room, e)
	}
	return x
}

// must is for what a test needs done.
func must(t *testing.T, errs ...api.Errno) {
	t.Helper()
	for i, e := range errs {
		if e != api.OK {
			t.Fatalf("change %d: error %d", i+1, int(e))
		}
	}
}

func xs(n int) string { return strings.Repeat("x", n) }

// lines is what a file of these records has.
func lines(t *testing.T, all ...[]string) string {
	t.Helper()
	s := ""
	for _, l := range all {
		one, e := line.Put(l)
		must(t, e)
		s += one
	}
	return s
}

// of makes records of one text each.
func of(texts ...string) [][]string {
	var all [][]string
	for _, s := range texts {
		all = append(all, []string{s})
	}
	return all
}

// told is all that a tree tells: path, text and time of each file, what is used, what is pending.
func told(x *files.Tree) string {
	var b strings.Builder
	for _, f := range x.All() {
		i, _ := x.Stat(f.Path)
		fmt.Fprintf(&b, "%s=%q@%d ", f.Path, f.Text, i.Time)
	}
	fmt.Fprintf(&b, "%d/%d", x.Used(), x.Pending())
	return b.String()
}

// clock is the number of changes that a tree had.
func clock(t *testing.T, x *files.Tree) int {
	t.Helper()
	y := x.Clone()
	for _, f := range y.All() { // so that there is room for one more
		y.Remove(f.Path)
	}
	gone := len(x.All())
	must(t, y.Write("clock", ""))
	i, _ := y.Stat("clock")
	return i.Time - gone - 1
}

// synced is a tree as a crash at once would leave it.
func synced(x *files.Tree) string {
	y := x.Clone()
	y.Crash(0, 0)
	return told(y)
}

// checkNothing sees to it that a call errs so, and leaves alone all that is there, lasts, and is counted.
func checkNothing(t *testing.T, x *files.Tree, want api.Errno, call func(*files.Tree) api.Errno) {
	t.Helper()
	before, lasting, changes := told(x), synced(x), clock(t, x)
	if e := call(x); e != want {
		t.Errorf("error %d, want %d", int(e), int(want))
	}
	if told(x) != before || synced(x) != lasting || clock(t, x) != changes {
		t.Errorf("there is %.300s (lasting %.300s), was %.300s (%.300s)", told(x), synced(x), before, lasting)
	}
}

func checkTold(t *testing.T, x *files.Tree, want string) {
	t.Helper()
	if got := told(x); got != want {
		t.Errorf("there is %.300s, want %.300s", got, want)
	}
}

func checkRead(t *testing.T, x *files.Tree, name string, want [][]string, isAll bool) {
	t.Helper()
	l, whole := Read(x, name)
	if !slices.EqualFunc(l, want, slices.Equal) || whole != isAll {
		t.Errorf("Read(%.40q) = %.200q, %v, want %.200q, %v", name, l, whole, want, isAll)
	}
}

// checkOpen sees to it that Open tells these records, and that behind it there is nothing else, and all lasts.
func checkOpen(t *testing.T, x *files.Tree, name string, want [][]string) {
	t.Helper()
	l, e := Open(x, name)
	if !slices.EqualFunc(l, want, slices.Equal) || e != api.OK {
		t.Errorf("Open(%.40q) = %.200q, %d, want %.200q", name, l, int(e), want)
	}
	checkRead(t, x, name, want, true)
	if _, e := x.Read(Beside(name)); e != api.ErrNone {
		t.Errorf("Open(%.40q) leaves a file beside", name)
	}
	if x.Pending() != 0 || synced(x) != told(x) {
		t.Errorf("Open(%.40q) leaves %d changes that do not last", name, x.Pending())
	}
}

// badNames are names whose Beside is no path, of each kind.
func badNames() []string {
	return []string{"/", "/a", "/a/b", "a//b", "a//", "./a", "../a", "a/./b", "a/../b", "a b", "a\n", "a%20", "a%", "\x00", "\xff", "é", " ", "a:b", xs(97), xs(100), xs(1 << 20), "a/b/c/d/e/f/g/h/i", "a/b/c/d/e/f/g/h/"}
}

// oddNames are names that are no path, while Beside is one.
func oddNames() []string {
	return []string{"", ".", "..", "a/", "a/b/", "a/.", "a/.."}
}

// badLists are lists that line.Put does not take, with what it tells.
func badLists() map[api.Errno][][]string {
	return map[api.Errno][][]string{
		api.ErrArg:  {nil, {}, []string{"behind"}[:0]},
		api.ErrLong: {make([]string, 41), {xs(12991)}, {strings.Repeat(" ", 4331)}, slices.Repeat([]string{xs(400)}, 40)},
	}
}

// J1: Beside

func TestBeside(t *testing.T) {
	for name, want := range map[string]string{
		"j": "j.new", "": ".new", "d/j": "d/j.new", "j.new": "j.new.new", "a b\x00": "a b\x00.new", "/": "/.new", xs(96): xs(96) + ".new", "é%\n": "é%\n.new",
	} {
		if got := Beside(name); got != want {
			t.Errorf("Beside(%q) = %q, want %q", name, got, want)
		}
	}
	if long := xs(1 << 20); Beside(long) != long+".new" {
		t.Error("Beside of a long name")
	}
}

// J1: Read

func TestRead(t *testing.T) {
	a, bc, none := lines(t, []string{"a"}), lines(t, []string{"b c", "\n"}), lines(t, []string{""})
	if a != lineOfA {
		t.Fatalf("%q", a)
	}
	for _, c := range []struct {
		s     string
		want  [][]string
		isAll bool
	}{
		{"", nil, true},
		{a, of("a"), true},
		{none, of(""), true},
		{a + bc, [][]string{{"a"}, {"b c", "\n"}}, true},
		{a + a + none + a, of("a", "a", "", "a"), true},
		// torn at the end
		{a + bc[:1], of("a"), false},
		{a + bc[:len(bc)-1], of("a"), false},
		{a[:len(a)-1], nil, false},
		{"a", nil, false},
		{"\n", nil, false},
		{a + "\n", of("a"), false},
		{a + bc + "\x00", [][]string{{"a"}, {"b c", "\n"}}, false},
		// torn in the middle
		{a[:5] + bc, nil, false},
		{a + bc[:5] + none, of("a"), false},
		{a + "\n" + bc, of("a"), false},
		{a + "b 00e40082\n" + a, of("a"), false},
		{a + a[1:] + a, of("a"), false},
		{"x" + a, nil, false},
		{a + bc[1:] + bc, of("a"), false},
		{a + "a 00E40082\n", of("a"), false},
	} {
		for _, name := range []string{"j", "d/j", xs(100)} {
			x := made(t, 1000)
			must(t, x.Write(name, c.s))
			checkRead(t, x, name, c.want, c.isAll)
			checkTold(t, x, fmt.Sprintf("%s=%q@1 %d/1", name, c.s, len(c.s)))
		}
	}
}

func TestReadAtEachCut(t *testing.T) {
	all := [][]string{{"a"}, {"b c", ""}, {""}, {"\n", "%", "\xff"}, {"last"}}
	s := lines(t, all...)
	for cut := range len(s) + 1 {
		whole := strings.Count(s[:cut], "\n")
		x := made(t, 1000)
		must(t, x.Write("j", s[:cut]))
		checkRead(t, x, "j", all[:whole], cut == 0 || s[cut-1] == '\n')
	}
}

func TestReadWhereThereIsNoFile(t *testing.T) {
	x := made(t, 1000)
	must(t, x.Write("k", "torn"), x.Write("j.new", lineOfA), x.Write("d/j", lineOfA))
	before := told(x)
	for _, name := range slices.Concat([]string{"j", "d", "d/j/k", "J", "k.new", xs(96)}, badNames(), oddNames()) {
		checkRead(t, x, name, nil, true)
	}
	checkTold(t, x, before)
}

func TestReadAsksNothingOfTheFileBeside(t *testing.T) {
	x := made(t, 1000)
	must(t, x.Write("j", lineOfA), x.Write("j.new", "torn"))
	before := told(x)
	checkRead(t, x, "j", of("a"), true)
	checkRead(t, x, "j.new", nil, false)
	checkTold(t, x, before)
}

// J1: Anew

func TestAnew(t *testing.T) {
	many := slices.Repeat([][]string{{"a", "b c"}, {""}}, 500)
	full := slices.Repeat([]string{"\n"}, 40)
	for _, all := range [][][]string{nil, {}, of("a"), of(""), of("b", "a", "b"), {{"a", "b c", ""}, {"\n"}}, {full}, of(xs(12990)), many} {
		want := lines(t, all...)
		for _, old := range []string{"", lineOfA, "torn", lineOfA + "torn", xs(20000)} {
			x := made(t, 1<<20)
			must(t, x.Write("other", "o"), x.Write("d/j", old), x.Write("d/j.new", "left"))
			must(t, Anew(x, "d/j", all))
			// two changes: the write, whose time the file keeps, and the rename
			checkTold(t, x, fmt.Sprintf("d/j=%q@4 other=\"o\"@1 %d/0", want, len(want)+1))
			if synced(x) != told(x) || clock(t, x) != 5 {
				t.Errorf("lasting: %.200s; the clock is %d", synced(x), clock(t, x))
			}
			checkRead(t, x, "d/j", all, true)
		}
	}
}

func TestAnewWhereThereIsNoFile(t *testing.T) {
	for _, name := range []string{"j", "d/j", xs(96), "a/b/c/d/e/f/g/h", ".new", "j.new", "-", "...", "a..."} {
		x := made(t, 100)
		must(t, Anew(x, name, of("a")))
		checkTold(t, x, fmt.Sprintf("%s=%q@1 11/0", name, lineOfA))
		must(t, Anew(x, name, nil))
		checkTold(t, x, fmt.Sprintf("%s=\"\"@3 0/0", name))
	}
}

func TestAnewErrsOfNames(t *testing.T) {
	x := made(t, 1000)
	must(t, x.Write("a", lineOfA), x.Write("a.new", "left"))
	for _, name := range badNames() {
		checkNothing(t, x, api.ErrArg, func(x *files.Tree) api.Errno { return Anew(x, name, of("b")) })
		checkNothing(t, x, api.ErrArg, func(x *files.Tree) api.Errno { return Anew(x, name, nil) })
		// the name is told ahead of the lists
		checkNothing(t, x, api.ErrArg, func(x *files.Tree) api.Errno { return Anew(x, name, [][]string{make([]string, 41)}) })
	}
}

func TestAnewErrsOfLists(t *testing.T) {
	for want, lists := range badLists() {
		for _, bad := range lists {
			for _, all := range [][][]string{{bad}, {bad, {"a"}}, {{"a"}, bad}, {{"a"}, {"b"}, bad, {"c"}}, {bad, bad}} {
				x := made(t, 100)
				must(t, x.Write("j", lineOfA+"torn"))
				x.Sync()
				// of an error of the lists nothing is done: the file beside stays too
				must(t, x.Write("j.new", "left"))
				checkNothing(t, x, want, func(x *files.Tree) api.Errno { return Anew(x, "j", all) })
			}
		}
	}
}

func TestAnewErrsFirstOfTheFirstList(t *testing.T) {
	x := made(t, 30)
	must(t, x.Write("j", "torn"), x.Write("j.new", "left"), x.Write("in/way", ""))
	long := make([]string, 41)
	for _, c := range []struct {
		name string
		all  [][]string
		want api.Errno
	}{
		{"j", [][]string{{"a"}, nil, long}, api.ErrArg},
		{"j", [][]string{{"a"}, long, nil}, api.ErrLong},
		// the lists ahead of the tree: no room, in the way, no path
		{"j", append(of("a", "b", "c", "d"), nil), api.ErrArg},
		{"j", append(of(xs(1000)), long), api.ErrLong},
		{"in", [][]string{long}, api.ErrLong},
		{"j.new/x", [][]string{long}, api.ErrLong},
		{"", [][]string{long}, api.ErrLong},
		{"..", [][]string{{"a"}, long}, api.ErrLong},
	} {
		checkNothing(t, x, c.want, func(x *files.Tree) api.Errno { return Anew(x, c.name, c.all) })
	}
}

// checkAnewFails sees to it that what was beside is gone, and that all else is as it was, lasting or not.
func checkAnewFails(t *testing.T, x *files.Tree, name string, all [][]string, want api.Errno, changes int) {
	t.Helper()
	y := x.Clone()
	y.Remove(Beside(name))
	before, count, lasting := y.All(), x.Pending()+changes, synced(x)
	if e := Anew(x, name, all); e != want {
		t.Errorf("Anew(%.40q): %d, want %d", name, int(e), int(want))
	}
	if !slices.Equal(x.All(), before) {
		t.Errorf("Anew(%.40q) leaves %.300s", name, told(x))
	}
	if x.Pending() != count || synced(x) != lasting {
		t.Errorf("Anew(%.40q): %d pending, want %d; lasting %.300s", name, x.Pending(), count, synced(x))
	}
}

func TestAnewErrsOfTheWrite(t *testing.T) {
	for _, isBeside := range []int{0, 1} { // and whether there is a file beside, whose removal is one change
		x := made(t, 40)
		must(t, x.Write("j", lineOfA+"torn"))
		x.Sync()
		must(t, x.Append("j", "."))
		if isBeside == 1 {
			must(t, x.Write("j.new", "left"))
		}
		checkAnewFails(t, x, "j", of("a", "b", "c"), api.ErrFull, isBeside)
		checkRead(t, x, "j", of("a"), false)
		// there is room for two lines just if nothing is left beside
		if e := Anew(x, "j", of("a", "b")); e != api.OK {
			t.Error(e)
		}
	}
	x := made(t, 100)
	must(t, x.Write("j", lineOfA), x.Write("j.new/x", "in the way"), x.Write("k", ""))
	checkAnewFails(t, x, "j", of("b"), api.ErrThere, 0)
	checkAnewFails(t, x, "k/l", of("b"), api.ErrThere, 0)
	checkAnewFails(t, x, "j.new/x/y", nil, api.ErrThere, 0)
}

func TestAnewErrsOfTheWriteWhereThereAreManyFiles(t *testing.T) {
	x := made(t, 1000)
	must(t, x.Write("j", lineOfA))
	for i := range api.MaxFiles - 1 {
		must(t, x.Write(fmt.Sprint("f", i), ""))
	}
	checkAnewFails(t, x, "j", nil, api.ErrFull, 0)
	must(t, x.Rename("f7", "j.new"))
	must(t, Anew(x, "j", of("b")))
	checkRead(t, x, "j", of("b"), true)
	if len(x.All()) != api.MaxFiles-1 {
		t.Error(len(x.All()))
	}
}

func TestAnewOfTheGreatestFile(t *testing.T) {
	all := slices.Repeat(of(xs(12990)), 1290) // of 13000 bytes each
	exact := append(slices.Clone(all), []string{xs(api.MaxFile - 1290*13000 - 10)})
	over := append(slices.Clone(all), []string{xs(api.MaxFile - 1290*13000 - 9)})
	x := made(t, 1<<30)
	must(t, x.Write("j.new", "left"))
	checkAnewFails(t, x, "j", over, api.ErrLong, 1)
	must(t, Anew(x, "j", exact))
	if i, e := x.Stat("j"); i.Size != api.MaxFile || e != api.OK {
		t.Error(i, e)
	}
	checkRead(t, x, "j", exact, true)
	if e := Anew(x, "j", append(over, of("a", "b")...)); e != api.ErrLong {
		t.Error(e)
	}
	// a list behind all that a file takes is still told first
	if e := Anew(x, "j", append(over, []string{"a"}, nil)); e != api.ErrArg {
		t.Error(e)
	}
	if i, _ := x.Stat("j"); i.Size != api.MaxFile || len(x.All()) != 1 || x.Pending() != 0 {
		t.Error(i, len(x.All()), x.Pending())
	}
}

func TestAnewErrsOfTheRename(t *testing.T) {
	for _, isBeside := range []bool{false, true} {
		x := made(t, 100)
		must(t, x.Write("d/k", lineOfA), x.Write("a", "o"))
		x.Sync()
		must(t, x.Append("d/k", "late"))
		if isBeside {
			must(t, x.Write("d.new", "left"), x.Write(".new", "left"), x.Write("...new", "left"))
		}
		// what was written beside is removed: two changes, and none of them lasts
		checkAnewFails(t, x, "d", of("b"), api.ErrThere, 2)
		checkAnewFails(t, x, "d", nil, api.ErrThere, 2)
		checkAnewFails(t, x, "", of("b"), api.ErrArg, 2)
		checkAnewFails(t, x, "..", nil, api.ErrArg, 2)
		checkAnewFails(t, x, "d/", of("b"), api.ErrArg, 2)
		checkAnewFails(t, x, "d/..", of("b"), api.ErrArg, 2)
		// the write's error is ahead of the rename's
		checkAnewFails(t, x, "d", of(xs(100)), api.ErrFull, 0)
		checkAnewFails(t, x, "", of(xs(100)), api.ErrFull, 0)
		checkAnewFails(t, x, "a/", nil, api.ErrThere, 0)
	}
}

// J2: Open

func TestOpen(t *testing.T) {
	for _, s := range []string{"", lineOfA, lines(t, []string{"a", "b c"}, []string{""}, []string{"\n"})} {
		all, _ := line.Scan(s)
		x := made(t, 1000)
		must(t, x.Write("other", "o"), x.Write("j", s))
		checkOpen(t, x, "j", all)
		// a file that has nothing behind its records is not written anew
		checkTold(t, x, fmt.Sprintf("j=%q@2 other=\"o\"@1 %d/0", s, len(s)+1))
		if clock(t, x) != 2 {
			t.Error(clock(t, x))
		}
		before := told(x)
		checkOpen(t, x, "j", all)
		checkTold(t, x, before)
	}
}

func TestOpenWhereThereIsNoFile(t *testing.T) {
	x := made(t, 1000)
	must(t, x.Write("d/k", "torn"), x.Write("other", "o"))
	for _, name := range []string{"j", "d", "other/x", xs(96), "j.new", "", ".", "a/", "a/.."} {
		checkOpen(t, x, name, nil)
		checkTold(t, x, `d/k="torn"@1 other="o"@2 5/0`)
	}
}

func TestOpenCutsOffWhatIsTorn(t *testing.T) {
	a, bc := lineOfA, lines(t, []string{"b c", "d"})
	for _, c := range []struct {
		s    string
		want [][]string
	}{
		{"torn", nil},
		{"\n", nil},
		{a[:len(a)-1], nil},
		{"x" + a + bc, nil},
		{a + "torn", of("a")},
		{a + bc[:len(bc)-1], of("a")},
		{a + bc + bc[:3], [][]string{{"a"}, {"b c", "d"}}},
		{a + "b 00e40082\n" + bc, of("a")},
		{a + "\n" + bc, of("a")},
		{a + bc[:4] + a, of("a")},
		{xs(20000), nil},
	} {
		for _, isBeside := range []int{0, 1} {
			x := made(t, 1<<20)
			must(t, x.Write("other", "o"), x.Write("j", c.s))
			if isBeside == 1 {
				must(t, x.Write("j.new", a+"torn"), x.Write("j.new.new", "far"))
			}
			checkOpen(t, x, "j", c.want)
			whole := lines(t, c.want...)
			if s, _ := x.Read("j"); s != whole || len(x.All()) != 2+isBeside {
				t.Errorf("there is %.200s", told(x))
			}
			must(t, Add(x, "j", []string{"new"}))
			checkRead(t, x, "j", append(slices.Clone(c.want), []string{"new"}), true)
		}
	}
}

func TestOpenRemovesTheFileBeside(t *testing.T) {
	for _, left := range []string{"", "left", lineOfA, lineOfA + "torn"} {
		for _, isFile := range []bool{false, true} {
			x := made(t, 100)
			want := [][]string(nil)
			if isFile {
				must(t, x.Write("j", lineOfA))
				want = of("a")
			}
			must(t, x.Write("j.new", left), x.Write("k.new", "k"))
			checkOpen(t, x, "j", want)
			if len(x.All()) != 1+len(want) || clock(t, x) != 3+len(want) {
				t.Errorf("there is %s, the clock is %d", told(x), clock(t, x))
			}
		}
	}
	// also of a name that is itself no path
	x := made(t, 100)
	must(t, x.Write(".new", lineOfA), x.Write("a/.new", lineOfA), x.Write("b", ""))
	checkOpen(t, x, "", nil)
	checkOpen(t, x, "a/", nil)
	checkTold(t, x, `b=""@3 0/0`)
}

func TestOpenErrsOfNames(t *testing.T) {
	x := made(t, 1000)
	must(t, x.Write("a", lineOfA), x.Write("a.new", "left"), x.Write("b", "torn"))
	for _, name := range append(badNames(), xs(98)) {
		checkNothing(t, x, api.ErrArg, func(x *files.Tree) api.Errno { return openErr(t, x, name) })
	}
	// a file may have a name that leaves no place for what is beside
	must(t, x.Write(xs(97), lineOfA))
	checkNothing(t, x, api.ErrArg, func(x *files.Tree) api.Errno { return openErr(t, x, xs(97)) })
	checkRead(t, x, xs(97), of("a"), true)
}

// openErr is Open's error; beside one there must be no records.
func openErr(t *testing.T, x *files.Tree, name string) api.Errno {
	t.Helper()
	l, e := Open(x, name)
	if e != api.OK && len(l) != 0 {
		t.Errorf("Open(%.40q): %.100q beside the error %d", name, l, int(e))
	}
	return e
}

func TestOpenWhereAnewErrs(t *testing.T) {
	x := made(t, 40)
	must(t, x.Write("j", lineOfA+lineOfA))
	x.Sync()
	must(t, x.Append("j", "torn"))
	before := told(x)
	if e := openErr(t, x, "j"); e != api.ErrFull {
		t.Error(e)
	}
	checkTold(t, x, before)
	// what was beside is removed all the same, and nothing lasts
	must(t, x.Write("j.new", "left"))
	if e := openErr(t, x, "j"); e != api.ErrFull || x.Pending() != 3 || len(x.All()) != 1 {
		t.Error(e, told(x))
	}
	if want := fmt.Sprintf("j=%q@1 22/0", lineOfA+lineOfA); synced(x) != want {
		t.Errorf("lasting: %s", synced(x))
	}
	// the room that the file beside took is enough
	y := made(t, 40)
	must(t, y.Write("j", lineOfA+"torn"), y.Write("j.new", xs(25)))
	checkOpen(t, y, "j", of("a"))
	// a path in the way of what is beside matters only if all is written anew
	z := made(t, 100)
	must(t, z.Write("j.new/x", ""), z.Write("j", lineOfA))
	checkOpen(t, z, "j", of("a"))
	must(t, z.Append("j", "torn"))
	checkNothing(t, z, api.ErrThere, func(x *files.Tree) api.Errno { return openErr(t, x, "j") })
}

func TestOpenWhereThereAreManyFiles(t *testing.T) {
	x := made(t, 1000)
	must(t, x.Write("j", lineOfA), x.Write("k", "torn"))
	for i := range api.MaxFiles - 2 {
		must(t, x.Write(fmt.Sprint("f", i), ""))
	}
	checkOpen(t, x, "j", of("a"))
	checkNothing(t, x, api.ErrFull, func(x *files.Tree) api.Errno { return openErr(t, x, "k") })
	must(t, x.Remove("f7"))
	checkOpen(t, x, "k", nil)
}

// J2: Add

func TestAdd(t *testing.T) {
	x := made(t, 1<<20)
	want := ""
	var all [][]string
	for i, l := range [][]string{{"a"}, {""}, {"a", "b c", ""}, {"\n"}, {"a"}, slices.Repeat([]string{"x"}, 40), {xs(12990)}, {every()}} {
		must(t, Add(x, "d/j", l))
		all = append(all, l)
		want += lines(t, l)
		checkRead(t, x, "d/j", all, true)
		checkTold(t, x, fmt.Sprintf("d/j=%q@%d %d/%d", want, i+1, len(want), i+1))
	}
	if s, _ := x.Read("d/j"); !strings.HasPrefix(s, lineOfA) {
		t.Errorf("%.40q", s)
	}
}

// every is all 256 bytes, each once.
func every() string {
	b := make([]byte, 256)
	for i := range b {
		b[i] = byte(i)
	}
	return string(b)
}

func TestAddAppends(t *testing.T) {
	x := made(t, 100)
	must(t, x.Write("j", "torn"), x.Write("j.new", "left"), x.Write("empty", ""))
	must(t, Add(x, "j", []string{"a"}), Add(x, "empty", []string{"a"}))
	// nothing is cut off, and what is beside stays
	checkTold(t, x, fmt.Sprintf("empty=%q@5 j=%q@4 j.new=\"left\"@2 30/5", lineOfA, "torn"+lineOfA))
}

func TestAddSyncsNothing(t *testing.T) {
	x := made(t, 100)
	must(t, x.Write("other", "o"), Add(x, "j", []string{"a"}))
	if x.Pending() != 2 || synced(x) != "0/0" {
		t.Error(told(x), synced(x))
	}
	x.Sync()
	must(t, Add(x, "j", []string{"b"}), Add(x, "j", []string{"c"}))
	if want := fmt.Sprintf("j=%q@2 other=\"o\"@1 12/0", lineOfA); x.Pending() != 2 || synced(x) != want {
		t.Error(told(x), synced(x))
	}
}

func TestAddErrsOfNames(t *testing.T) {
	x := made(t, 1000)
	must(t, x.Write("a", lineOfA), x.Write("a.new", "left"), x.Write(xs(97), lineOfA))
	for _, name := range badNames() {
		checkNothing(t, x, api.ErrArg, func(x *files.Tree) api.Errno { return Add(x, name, []string{"b"}) })
		// the name is told ahead of the list
		checkNothing(t, x, api.ErrArg, func(x *files.Tree) api.Errno { return Add(x, name, make([]string, 41)) })
	}
	for _, name := range oddNames() {
		checkNothing(t, x, api.ErrArg, func(x *files.Tree) api.Errno { return Add(x, name, []string{"b"}) })
		// but what the tree tells of the name is behind the list
		checkNothing(t, x, api.ErrLong, func(x *files.Tree) api.Errno { return Add(x, name, make([]string, 41)) })
	}
	must(t, Add(x, xs(96), []string{"a"}), Add(x, "a.b/c/d/e/f/g/h/i", []string{"a"}))
}

func TestAddErrsOfLists(t *testing.T) {
	x := made(t, 12)
	must(t, x.Write("j", lineOfA), x.Write("d/j", ""))
	for want, lists := range badLists() {
		for _, l := range lists {
			// also where the tree would err: no room, in the way
			for _, name := range []string{"j", "k", "j/k", "d"} {
				checkNothing(t, x, want, func(x *files.Tree) api.Errno { return Add(x, name, l) })
			}
		}
	}
}

func TestAddErrsOfTheTree(t *testing.T) {
	x := made(t, 25)
	must(t, Add(x, "j", []string{"a"}), x.Write("d/k", "xyz"))
	for _, c := range []struct {
		name string
		want api.Errno
	}{{"j/k", api.ErrThere}, {"j/k/l", api.ErrThere}, {"d", api.ErrThere}, {"d/k/j", api.ErrThere}} {
		checkNothing(t, x, c.want, func(x *files.Tree) api.Errno { return Add(x, c.name, []string{"a"}) })
	}
	// a line has room, one byte more has none
	checkNothing(t, x, api.ErrFull, func(x *files.Tree) api.Errno { return Add(x, "j", []string{"ab"}) })
	checkNothing(t, x, api.ErrFull, func(x *files.Tree) api.Errno { return Add(x, "new", []string{"ab"}) })
	must(t, Add(x, "j", []string{"a"}))
	checkNothing(t, x, api.ErrFull, func(x *files.Tree) api.Errno { return Add(x, "j", []string{"a"}) })
	checkRead(t, x, "j", of("a", "a"), true)
}

func TestAddToAFullFile(t *testing.T) {
	x := made(t, 1<<30)
	must(t, x.Write("j", xs(api.MaxFile-11)), x.Write("k", xs(api.MaxFile-10)))
	must(t, Add(x, "j", []string{"a"}))
	for _, name := range []string{"j", "k"} {
		if e := Add(x, name, []string{"a"}); e != api.ErrLong {
			t.Errorf("Add to %s: %d", name, int(e))
		}
	}
	if x.Used() != 2*api.MaxFile-10 || x.Pending() != 3 {
		t.Error(x.Used(), x.Pending())
	}
}

func TestAddWhereThereAreManyFiles(t *testing.T) {
	x := made(t, 1000)
	for i := range api.MaxFiles {
		must(t, x.Write(fmt.Sprint("f", i), ""))
	}
	checkNothing(t, x, api.ErrFull, func(x *files.Tree) api.Errno { return Add(x, "j", []string{"a"}) })
	must(t, Add(x, "f7", []string{"a"}))
	checkRead(t, x, "f7", of("a"), true)
}

// J3: a crash behind some Adds

func TestCrashAtEveryPlaceBehindAdds(t *testing.T) {
	all := [][]string{{"a"}, {"b c", ""}, {""}, {"\n", "%", "\xff"}, {"last"}}
	for lasting := range len(all) + 1 {
		x := made(t, 1000)
		addAll(t, x, "j", all[:lasting])
		x.Sync()
		addAll(t, x, "j", all[lasting:])
		for many := -1; many <= len(all)-lasting+1; many++ {
			kept := min(lasting+max(many, 0), len(all))
			next := ""
			if kept < len(all) {
				next = lines(t, all[kept])
			}
			for part := -1; part <= len(next)+1; part++ {
				y := x.Clone()
				y.Crash(many, part)
				want := all[:kept]
				if next != "" && part >= len(next) {
					want = all[:kept+1]
				}
				checkOpen(t, y, "j", want)
				checkGoesOn(t, y, want)
			}
		}
	}
}

func addAll(t *testing.T, x *files.Tree, name string, all [][]string) {
	t.Helper()
	for _, l := range all {
		must(t, Add(x, name, l))
	}
}

// checkGoesOn sees to it that what is added behind Open is read, and is there behind the next crash.
func checkGoesOn(t *testing.T, x *files.Tree, ahead [][]string) {
	t.Helper()
	must(t, Add(x, "j", []string{"more"}), Add(x, "j", []string{"lost"}))
	x.Crash(1, 7)
	checkOpen(t, x, "j", append(slices.Clone(ahead), []string{"more"}))
}

// J3: a crash while it is written anew

// steps of Anew, one by one, as J1 says them: TestStepsAreThoseOfAnew holds them against it.
func steps(t *testing.T, x *files.Tree, name string, all [][]string) {
	t.Helper()
	must(t, x.Write(Beside(name), lines(t, all...)), x.Rename(Beside(name), name))
}

func TestStepsAreThoseOfAnew(t *testing.T) {
	for _, all := range [][][]string{nil, of("a"), of("a", "b", "c")} {
		x := made(t, 1000)
		must(t, x.Write("j", lineOfA+"torn"))
		y := x.Clone()
		must(t, Anew(x, "j", all))
		steps(t, y, "j", all)
		y.Sync()
		if told(x) != told(y) || clock(t, x) != clock(t, y) {
			t.Errorf("Anew leaves %s, its steps %s", told(x), told(y))
		}
	}
}

func TestCrashAtEveryPlaceOfAnew(t *testing.T) {
	olds, added := of("old", "older"), of("late", "later")
	for _, news := range [][][]string{nil, of("new"), {{"n", "e w"}, {""}, {"newest"}}} {
		x := made(t, 1000)
		addAll(t, x, "j", olds)
		x.Sync()
		addAll(t, x, "j", added)
		steps(t, x, "j", news)
		size := len(lines(t, news...))
		// two Adds, the write, the rename
		for many := range 6 {
			for part := range size + 20 {
				y := x.Clone()
				y.Crash(many, part)
				want := append(slices.Clone(olds), added[:min(many, 2)]...)
				switch {
				case many < 2 && part >= len(lines(t, added[many])):
					want = append(want, added[many])
				case many >= 4:
					want = news
				}
				checkOpen(t, y, "j", want)
				if len(y.All()) != 1 {
					t.Errorf("there is %s", told(y))
				}
				checkGoesOn(t, y, want)
			}
		}
	}
}

// Open writes anew what is torn: of the same records, so a crash in its midst tells them once more.
func TestCrashAtEveryPlaceOfOpen(t *testing.T) {
	x := made(t, 1000)
	must(t, x.Write("j", lineOfA+lineOfA+"torn"), x.Write("j.new", "left"))
	x.Sync()
	must(t, x.Remove("j.new"))
	steps(t, x, "j", of("a", "a"))
	for many := range 5 {
		for part := range 30 {
			y := x.Clone()
			y.Crash(many, part)
			checkOpen(t, y, "j", of("a", "a"))
		}
	}
	y := made(t, 1000)
	must(t, y.Write("j", lineOfA+lineOfA+"torn"), y.Write("j.new", "left"))
	checkOpen(t, y, "j", of("a", "a"))
	x.Sync()
	if told(x) != told(y) || clock(t, x) != clock(t, y) {
		t.Errorf("Open leaves %s, its steps %s", told(y), told(x))
	}
}

func TestNoCrashBehindAnewOrOpenTakesAnything(t *testing.T) {
	x := made(t, 1000)
	must(t, x.Write("other", "o"), Add(x, "j", []string{"a"}), Anew(x, "j", of("b", "c")))
	x.Crash(0, 0)
	checkOpen(t, x, "j", of("b", "c"))
	must(t, x.Append("other", "p"), Add(x, "j", []string{"d"}))
	checkOpen(t, x, "j", of("b", "c", "d"))
	x.Crash(0, 0)
	checkOpen(t, x, "j", of("b", "c", "d"))
	if s, _ := x.Read("other"); s != "op" {
		t.Errorf("other is %q", s)
	}
}

// J3: all ways of a few steps, with crashes of many kinds behind each

// model is what J3 says that is there: the records that last, and those added since; torn is what Read is to tell.
type model struct {
	lasting, added [][]string
	torn           bool
}

func (m model) all() [][]string { return append(slices.Clone(m.lasting), m.added...) }

func (m model) sync() model { return model{lasting: m.all(), torn: m.torn} }

func walk(t *testing.T, x *files.Tree, m model, did string, left int) {
	checkRead(t, x, "j", m.all(), !m.torn)
	if t.Failed() {
		t.Fatal(did)
	}
	if left == 0 {
		return
	}
	y := x.Clone()
	y.Sync()
	walk(t, y, m.sync(), did+" sync", left-1)
	y = x.Clone()
	checkOpen(t, y, "j", m.all())
	walk(t, y, model{lasting: m.all()}, did+" open", left-1)
	for _, news := range [][][]string{nil, of("x", "y z")} {
		y = x.Clone()
		must(t, Anew(y, "j", news))
		walk(t, y, model{lasting: news}, fmt.Sprint(did, " anew", len(news)), left-1)
	}
	if m.torn { // what is added to a journal that is torn is told by nobody until Open
		return
	}
	for _, s := range []string{"a", ""} {
		y = x.Clone()
		must(t, Add(y, "j", []string{s}))
		walk(t, y, model{lasting: m.lasting, added: append(slices.Clone(m.added), []string{s})}, did+" add", left-1)
	}
	walkCrashes(t, x, m, did, left)
}

func walkCrashes(t *testing.T, x *files.Tree, m model, did string, left int) {
	for many := range len(m.added) + 1 {
		for _, part := range []int{0, 1, 10, 11, far} { // a line has 11 bytes here
			y := x.Clone()
			y.Crash(many, part)
			n := model{lasting: append(slices.Clone(m.lasting), m.added[:many]...)}
			if many < len(m.added) && part >= 11 {
				n.lasting = append(n.lasting, m.added[many])
			} else if many < len(m.added) {
				n.torn = part > 0
			}
			walk(t, y, n, fmt.Sprint(did, " crash", many, ",", part), left-1)
		}
	}
}

func TestAllShortWays(t *testing.T) {
	walk(t, made(t, 1000), model{}, "", 5)
}

// Two journals in one tree.

func TestTwoJournals(t *testing.T) {
	ones, twos := of("1", "11", "111"), of("2", "22", "222")
	x := made(t, 1000)
	for i := range ones {
		must(t, Add(x, "one", ones[i]), Add(x, "two", twos[i]))
	}
	for many := range 7 {
		for part := range 15 {
			y := x.Clone()
			y.Crash(many, part)
			nOnes, nTwos := (many+1)/2, many/2
			if many < 6 && part >= 11+many/2 {
				nOnes, nTwos = (many+2)/2, (many+1)/2
			}
			z := y.Clone()
			checkOpen(t, y, "one", ones[:nOnes])
			checkOpen(t, y, "two", twos[:nTwos])
			checkOpen(t, z, "two", twos[:nTwos])
			checkOpen(t, z, "one", ones[:nOnes])
		}
	}
}

// The sync of one is a sync of the tree: what the other has, torn or not, lasts with it.
func TestTwoJournalsShareTheSync(t *testing.T) {
	for _, call := range []func(*files.Tree) api.Errno{
		func(x *files.Tree) api.Errno { return openErr(t, x, "one") },
		func(x *files.Tree) api.Errno { return Anew(x, "one", of("1")) },
	} {
		x := made(t, 1000)
		must(t, Add(x, "one", []string{"1"}), Add(x, "two", []string{"2"}), x.Write("two.new", "left"))
		must(t, call(x))
		x.Crash(0, 0)
		checkRead(t, x, "one", of("1"), true)
		checkRead(t, x, "two", of("2"), true)
		if s, _ := x.Read("two.new"); s != "left" {
			t.Errorf("what is beside the other one is %q", s)
		}
		must(t, Add(x, "one", []string{"11"}), x.Append("two", "torn"))
		must(t, call(x))
		checkRead(t, x, "two", of("2"), false)
		checkOpen(t, x, "two", of("2"))
	}
}

// A journal may have the name of what is beside another one: then it is taken away with the other's Open.
func TestAJournalBesideAnother(t *testing.T) {
	x := made(t, 1000)
	must(t, Add(x, "j.new", []string{"b"}), Add(x, "j", []string{"a"}))
	checkOpen(t, x, "j.new", of("b"))
	checkRead(t, x, "j", of("a"), true)
	checkOpen(t, x, "j", of("a"))
	checkOpen(t, x, "j.new", nil)
}

// P1: no tree

func TestNoTree(t *testing.T) {
	for _, name := range slices.Concat([]string{"j", "d/j"}, badNames(), oddNames()) {
		if l, isAll := Read(nil, name); len(l) != 0 || !isAll {
			t.Error(l, isAll)
		}
		if l, e := Open(nil, name); len(l) != 0 || e != api.ErrArg {
			t.Error(l, e)
		}
		for _, l := range [][]string{nil, {"a"}, make([]string, 41)} {
			if e := Add(nil, name, l); e != api.ErrArg {
				t.Error(e)
			}
			if e := Anew(nil, name, [][]string{l}); e != api.ErrArg {
				t.Error(e)
			}
		}
	}
}

func TestATreeOfNoRoom(t *testing.T) {
	x := new(files.Tree)
	checkOpen(t, x, "j", nil)
	checkNothing(t, x, api.ErrFull, func(x *files.Tree) api.Errno { return Add(x, "j", []string{"a"}) })
	checkAnewFails(t, x, "j", of("a"), api.ErrFull, 0)
	must(t, Anew(x, "j", nil))
	checkTold(t, x, `j=""@1 0/0`)
}

// P3: what is handed in is left alone, and not kept; what is answered is new

func TestListsAreNotKept(t *testing.T) {
	x := made(t, 1000)
	l := []string{"a", "b", "behind"}
	must(t, Add(x, "j", l[:2]))
	if !slices.Equal(l, []string{"a", "b", "behind"}) {
		t.Error(l)
	}
	l[0] = "z"
	checkRead(t, x, "j", [][]string{{"a", "b"}}, true)
	all := [][]string{{"c"}, []string{"d", "e", "behind"}[:2], {"behind"}}
	must(t, Anew(x, "j", all[:2]))
	if !slices.EqualFunc(all[:3], [][]string{{"c"}, {"d", "e"}, {"behind"}}, slices.Equal) || all[1][:3][2] != "behind" {
		t.Error(all)
	}
	all[0], all[1][0] = nil, "z"
	checkRead(t, x, "j", [][]string{{"c"}, {"d", "e"}}, true)
}

func TestListsAnsweredAreNew(t *testing.T) {
	for _, torn := range []string{"", "torn"} {
		x := made(t, 1000)
		must(t, Add(x, "j", []string{"a", "b"}), Add(x, "j", []string{"c"}), x.Append("j", torn))
		first, _ := Read(x, "j")
		second, e := Open(x, "j")
		must(t, e)
		for _, l := range [][][]string{first, second} {
			_ = append(l[0], "over")
			_ = append(l[:1], []string{"over"})
			l[0][0], l[1] = "z", nil
		}
		checkRead(t, x, "j", [][]string{{"a", "b"}, {"c"}}, true)
		checkOpen(t, x, "j", [][]string{{"a", "b"}, {"c"}})
	}
}

// P4: two trees with which the same was done tell the same

func TestJournalsHangOnWhatWasDoneAlone(t *testing.T) {
	x, y := made(t, 300), made(t, 300)
	for i := range 2000 {
		do := func(x *files.Tree) string {
			l, e := [][]string(nil), api.OK
			switch i * i % 11 {
			case 0:
				l, e = Open(x, "j")
			case 1:
				e = Anew(x, "k", of("a", "b"))
			case 3:
				x.Crash(i%4, i%13)
			case 4:
				l, e = Open(x, "k")
			case 5:
				e = Anew(x, "j", of("c"))
			default:
				e = Add(x, "j", []string{"n"})
			}
			return fmt.Sprintf("%q %d %s", l, e, told(x))
		}
		if a, b := do(x), do(y); a != b {
			t.Fatal(i, a, b)
		}
	}
}

func TestMuchOfEverything(t *testing.T) {
	x := made(t, 1<<30)
	for range 1 << 16 {
		must(t, Add(x, "j", []string{"a"}))
	}
	x.Crash(1<<16-1, 10)
	l, e := Open(x, "j")
	if len(l) != 1<<16-1 || e != api.OK || x.Used() != (1<<16-1)*11 {
		t.Error(len(l), e, x.Used())
	}
	must(t, x.Write("j", xs(api.MaxFile)), x.Write("k", strings.Repeat("\n", api.MaxFile)))
	checkOpen(t, x, "j", nil)
	checkOpen(t, x, "k", nil)
	x.Crash(math.MaxInt, math.MaxInt)
	checkTold(t, x, fmt.Sprintf(`j=""@%d k=""@%d 0/0`, 1<<16+5, 1<<16+7))
	if e := Anew(x, "j", make([][]string, 1<<20)); e != api.ErrArg {
		t.Error(e)
	}
	if e := Anew(x, "j", slices.Repeat(of(""), 1<<21)); e != api.ErrLong {
		t.Error(e)
	}
}

// The example of the chapter.

func TestExample(t *testing.T) {
	x := made(t, 100)
	must(t, Add(x, "j", []string{"a"}))
	x.Sync()
	must(t, Add(x, "j", []string{"b"}))
	x.Crash(0, 5)
	checkRead(t, x, "j", of("a"), false)
	checkOpen(t, x, "j", of("a"))
}
