package files

import (
	"fmt"
	"math"
	"slices"
	"strings"
	"testing"

	"cooperage/api"
)

func made(t *testing.T, room int) *Tree {
	t.Helper()
	x, e := New(room)
	if x == nil || e != api.OK {
		t.Fatalf("New(%d): %v", room, e)
	}
	return x
}

// told is all that a tree tells: path, text, size and time of each file, what is used, what is pending.
func told(x *Tree) string {
	var b strings.Builder
	for _, f := range x.All() {
		s, _ := x.Read(f.Path)
		i, _ := x.Stat(f.Path)
		fmt.Fprintf(&b, "%s=%s", f.Path, f.Text)
		if s != f.Text || i.Size != len(s) {
			fmt.Fprintf(&b, "(Read %q, Size %d)", s, i.Size)
		}
		fmt.Fprintf(&b, "@%d ", i.Time)
	}
	fmt.Fprintf(&b, "%d/%d", x.Used(), x.Pending())
	return b.String()
}

func check(t *testing.T, x *Tree, want string) {
	t.Helper()
	if got := told(x); got != want {
		t.Errorf("there is %.200s, want %.200s", got, want)
	}
}

// checkDone holds an error, and what there is behind it.
func checkDone(t *testing.T, x *Tree, e, wantE api.Errno, want string) {
	t.Helper()
	if e != wantE {
		t.Errorf("error %d, want %d", int(e), int(wantE))
	}
	check(t, x, want)
}

// checkNothing sees to it that a call leaves the files, the clock and what is pending alone.
func checkNothing(t *testing.T, x *Tree, want api.Errno, do func(*Tree) api.Errno) {
	t.Helper()
	before, clock := told(x), x.clock
	checkDone(t, x, do(x), want, before)
	if x.clock != clock {
		t.Errorf("the clock is %d, was %d", x.clock, clock)
	}
	y := x.Clone()
	y.Crash(y.Pending(), 1)
	kept := strings.TrimSuffix(before, fmt.Sprint("/", x.Pending())) + "/0"
	if told(y) != kept {
		t.Errorf("behind a crash there is %.200s, want %.200s", told(y), kept)
	}
}

// must is for what a test needs done.
func must(t *testing.T, errs ...api.Errno) {
	t.Helper()
	for i, e := range errs {
		if e != api.OK {
			t.Fatalf("change %d: error %d", i+1, int(e))
		}
	}
}

func xs(n int) string { return strings.Repeat("x", n) }

// notPaths are texts that are no path, of each kind.
func notPaths() []string {
	return []string{"", "/", "/a", "a/", "a//b", ".", "..", "a/.", "../a", "a b", "a\n", "a%20", "\x00", "é", xs(101), "a/b/c/d/e/f/g/h/i"}
}

// F1: New

func TestNew(t *testing.T) {
	for _, c := range []struct {
		room int
		want api.Errno
	}{
		{0, api.ErrArg}, {-1, api.ErrArg}, {math.MinInt, api.ErrArg}, {1<<30 + 1, api.ErrArg}, {1 << 31, api.ErrArg}, {math.MaxInt, api.ErrArg},
		{1, api.OK}, {2, api.OK}, {1 << 30, api.OK},
	} {
		x, e := New(c.room)
		if e != c.want || (x != nil) != (e == api.OK) {
			t.Errorf("New(%d) = %v, %d, want %d", c.room, x, int(e), int(c.want))
		}
		if x != nil {
			check(t, x, "0/0")
		}
	}
}

// F1: Write and Append

func TestWriteAndAppend(t *testing.T) {
	x := made(t, 1<<30)
	checkDone(t, x, x.Write("b", "xy"), api.OK, "b=xy@1 2/1")
	checkDone(t, x, x.Append("b", "z"), api.OK, "b=xyz@2 3/2")
	checkDone(t, x, x.Append("a", "q"), api.OK, "a=q@3 b=xyz@2 4/3")
	checkDone(t, x, x.Write("b", "w"), api.OK, "a=q@3 b=w@4 2/4")
	checkDone(t, x, x.Append("b", "v"), api.OK, "a=q@3 b=wv@5 3/5")
	checkDone(t, x, x.Write("a", ""), api.OK, "a=@6 b=wv@5 2/6")
	checkDone(t, x, x.Append("b", ""), api.OK, "a=@6 b=wv@7 2/7")
	checkDone(t, x, x.Append("c", ""), api.OK, "a=@6 b=wv@7 c=@8 2/8")
	checkDone(t, x, x.Write("a", "\x00\xff\n"), api.OK, "a=\x00\xff\n@9 b=wv@7 c=@8 5/9")
	checkDone(t, x, x.Write("b", "wv"), api.OK, "a=\x00\xff\n@9 b=wv@10 c=@8 5/10")
}

func TestAppendsGrowOneFile(t *testing.T) {
	x := made(t, 100)
	must(t, x.Append("a", "1"), x.Append("b", "2"), x.Append("a", "3"), x.Rename("a", "c"), x.Append("a", "4"), x.Append("c", "5"))
	check(t, x, "a=4@5 b=2@2 c=135@6 5/6")
	must(t, x.Rename("a", "c"), x.Append("c", "6"), x.Append("a", "7"), x.Remove("c"), x.Append("c", "8"), x.Write("a", "9"), x.Append("a", "0"))
	check(t, x, "a=90@13 b=2@2 c=8@11 4/13")
}

func TestWhatIsNoPath(t *testing.T) {
	x := made(t, 10)
	must(t, x.Write("a", "x"))
	for _, p := range notPaths() {
		checkNothing(t, x, api.ErrArg, func(x *Tree) api.Errno { return x.Write(p, "") })
		checkNothing(t, x, api.ErrArg, func(x *Tree) api.Errno { return x.Append(p, "") })
	}
	for i, p := range []string{xs(100), "a.b", "b/c/d/e/f/g/h/i", "-", "..."} {
		if e := x.Write(p, ""); e != api.OK {
			t.Errorf("Write(%q): %d, change %d", p, int(e), i)
		}
	}
}

func TestLongFiles(t *testing.T) {
	most := xs(api.MaxFile)
	x := made(t, 1<<30)
	checkNothing(t, x, api.ErrLong, func(x *Tree) api.Errno { return x.Write("a", most+"x") })
	checkNothing(t, x, api.ErrLong, func(x *Tree) api.Errno { return x.Append("a", most+"x") })
	must(t, x.Write("a", most), x.Append("a", ""), x.Append("b", most))
	for _, p := range []string{"a", "b"} {
		if i, e := x.Stat(p); i.Size != 1<<24 || e != api.OK {
			t.Errorf("Stat(%s) = %v, %d", p, i, int(e))
		}
		if e := x.Append(p, "x"); e != api.ErrLong {
			t.Errorf("Append to %s: %d", p, int(e))
		}
		if e := x.Write(p, most+"x"); e != api.ErrLong {
			t.Errorf("Write to %s: %d", p, int(e))
		}
	}
	if x.Used() != 1<<25 || x.Pending() != 3 || x.clock != 3 {
		t.Error(x.Used(), x.Pending(), x.clock)
	}
	must(t, x.Write("a", most[1:]), x.Append("a", "y"))
	if s, _ := x.Read("a"); s != most[1:]+"y" {
		t.Error("not the bytes that were appended to")
	}
}

func TestInTheWay(t *testing.T) {
	for _, c := range []struct {
		there, path string
		want        api.Errno
	}{
		{"a", "a/b", api.ErrThere}, {"a/b", "a", api.ErrThere}, {"a", "a/b/c", api.ErrThere}, {"a/b", "a/b/c", api.ErrThere},
		{"a/b/c", "a", api.ErrThere}, {"a/b/c", "a/b", api.ErrThere},
		{"a", "ab", api.OK}, {"ab", "a", api.OK}, {"a", "a.b", api.OK}, {"a", "a+/b", api.OK}, {"a+/b", "a", api.OK},
		{"a/b", "a/c", api.OK}, {"a/b", "a/bc", api.OK}, {"a/b", "b/a", api.OK}, {"a", "b/a", api.OK}, {"b/a", "a", api.OK}, {"a/b", "a/b", api.OK},
		{"a/b", "b", api.OK}, {"a", "A/b", api.OK},
	} {
		x := made(t, 10)
		must(t, x.Write("z", ""), x.Write(c.there, "x"))
		calls := []func(*Tree) api.Errno{
			func(x *Tree) api.Errno { return x.Write(c.path, "y") },
			func(x *Tree) api.Errno { return x.Append(c.path, "y") },
			func(x *Tree) api.Errno { return x.Rename("z", c.path) },
		}
		for i, do := range calls {
			y := x.Clone()
			if c.want != api.OK {
				checkNothing(t, y, c.want, do)
			} else if e := do(y); e != api.OK {
				t.Errorf("call %d of %s beside %s: %d", i, c.path, c.there, int(e))
			} else if _, e := y.Read(c.path); e != api.OK {
				t.Errorf("call %d of %s: not there", i, c.path)
			}
		}
	}
}

func TestRoom(t *testing.T) {
	x := made(t, 10)
	must(t, x.Write("a", "1234"), x.Write("b", "123456"))
	for _, do := range []func(*Tree) api.Errno{
		func(x *Tree) api.Errno { return x.Write("c", "1") },
		func(x *Tree) api.Errno { return x.Append("c", "1") },
		func(x *Tree) api.Errno { return x.Append("a", "5") },
		func(x *Tree) api.Errno { return x.Write("a", "12345") },
		func(x *Tree) api.Errno { return x.Write("b", "1234567") },
		func(x *Tree) api.Errno { return x.Write("a", "12345678901") },
	} {
		checkNothing(t, x, api.ErrFull, do)
	}
	must(t, x.Write("a", "4321"), x.Append("b", ""), x.Write("c", ""))
	check(t, x, "a=4321@3 b=123456@4 c=@5 10/5")
	must(t, x.Write("b", ""), x.Append("a", "567890"))
	checkNothing(t, x, api.ErrFull, func(x *Tree) api.Errno { return x.Append("b", "1") })
	must(t, x.Remove("a"), x.Write("b", "1234567890"))
	check(t, x, "b=1234567890@9 c=@5 10/9")
	one := made(t, 1)
	checkNothing(t, one, api.ErrFull, func(x *Tree) api.Errno { return x.Write("a", "12") })
	must(t, one.Write("a", "1"), one.Rename("a", "b"))
	check(t, one, "b=1@1 1/2")
}

func TestRoomOfABigTree(t *testing.T) {
	x := made(t, 1<<30)
	most := xs(api.MaxFile)
	for i := range 64 {
		must(t, x.Write(fmt.Sprint("f", i), most))
	}
	if x.Used() != 1<<30 || x.Append("g", "x") != api.ErrFull || x.Append("g", "") != api.OK || x.Write("f0", "") != api.OK || x.Append("g", "x") != api.OK {
		t.Error("room of 2^30")
	}
}

func TestManyFiles(t *testing.T) {
	x := made(t, 1000)
	for i := range api.MaxFiles {
		must(t, x.Write(fmt.Sprint("f", i), ""))
	}
	checkNothing(t, x, api.ErrFull, func(x *Tree) api.Errno { return x.Write("g", "") })
	checkNothing(t, x, api.ErrFull, func(x *Tree) api.Errno { return x.Append("g", "") })
	must(t, x.Write("f0", "x"), x.Append("f199", "y"), x.Rename("f7", "g"))
	if len(x.All()) != 200 || x.Used() != 2 || x.Pending() != 203 {
		t.Error(len(x.All()), x.Used(), x.Pending())
	}
	checkNothing(t, x, api.ErrFull, func(x *Tree) api.Errno { return x.Write("f7", "") })
	must(t, x.Remove("g"), x.Append("f7", ""))
	checkNothing(t, x, api.ErrFull, func(x *Tree) api.Errno { return x.Append("g", "") })
	must(t, x.Rename("f7", "f8"), x.Write("g", ""))
	x.Crash(math.MaxInt, 0)
	checkNothing(t, x, api.ErrFull, func(x *Tree) api.Errno { return x.Write("h", "") })
}

// P2: of errors that would both fit, the one that is named first

func TestFirstError(t *testing.T) {
	x := made(t, 10)
	must(t, x.Write("a/b", "123456789"), x.Write("c", ""))
	long := xs(api.MaxFile + 1)
	for i, c := range []struct {
		want api.Errno
		do   func(*Tree) api.Errno
	}{
		{api.ErrArg, func(x *Tree) api.Errno { return x.Write("a/b/", long) }},
		{api.ErrArg, func(x *Tree) api.Errno { return x.Append("a//b", long) }},
		{api.ErrArg, func(x *Tree) api.Errno { return x.Write("..", "123") }},
		{api.ErrLong, func(x *Tree) api.Errno { return x.Write("a", long) }},
		{api.ErrLong, func(x *Tree) api.Errno { return x.Append("a/b/c", long) }},
		{api.ErrLong, func(x *Tree) api.Errno { return x.Write("c", long) }},
		{api.ErrThere, func(x *Tree) api.Errno { return x.Write("a", "123") }},
		{api.ErrThere, func(x *Tree) api.Errno { return x.Append("a/b/c", "123") }},
		{api.ErrNone, func(x *Tree) api.Errno { return x.Rename("z", "") }},
		{api.ErrNone, func(x *Tree) api.Errno { return x.Rename("", "") }},
		{api.ErrNone, func(x *Tree) api.Errno { return x.Rename("z", "z") }},
		{api.ErrNone, func(x *Tree) api.Errno { return x.Rename("z", "a") }},
		{api.ErrArg, func(x *Tree) api.Errno { return x.Rename("c", "a/b/") }},
	} {
		t.Run(fmt.Sprint(i), func(t *testing.T) { checkNothing(t, x, c.want, c.do) })
	}
	for i := range 198 {
		must(t, x.Write(fmt.Sprint("f", i), ""))
	}
	checkNothing(t, x, api.ErrThere, func(x *Tree) api.Errno { return x.Write("a", "") })
	checkNothing(t, x, api.ErrArg, func(x *Tree) api.Errno { return x.Write("a/", "") })
}

// F2: Remove and Rename

func TestRemove(t *testing.T) {
	x := made(t, 10)
	must(t, x.Write("a/b", "x"), x.Write("c", "y"))
	for _, p := range append(notPaths(), "a", "b", "a/b/c", "C", "c/") {
		checkNothing(t, x, api.ErrNone, func(x *Tree) api.Errno { return x.Remove(p) })
	}
	checkDone(t, x, x.Remove("a/b"), api.OK, "c=y@2 1/3")
	checkNothing(t, x, api.ErrNone, func(x *Tree) api.Errno { return x.Remove("a/b") })
	checkDone(t, x, x.Write("a", "z"), api.OK, "a=z@4 c=y@2 2/4")
	checkDone(t, x, x.Remove("a"), api.OK, "c=y@2 1/5")
	checkDone(t, x, x.Remove("c"), api.OK, "0/6")
}

func TestRename(t *testing.T) {
	x := made(t, 10)
	must(t, x.Write("a", "12"), x.Write("b", "345"), x.Write("d/e", "6"))
	for _, p := range append(notPaths(), "d", "z", "a/") {
		checkNothing(t, x, api.ErrNone, func(x *Tree) api.Errno { return x.Rename(p, "y") })
	}
	for _, p := range notPaths() {
		checkNothing(t, x, api.ErrArg, func(x *Tree) api.Errno { return x.Rename("a", p) })
	}
	for _, p := range []string{"d", "d/e/f", "b/c"} {
		checkNothing(t, x, api.ErrThere, func(x *Tree) api.Errno { return x.Rename("a", p) })
	}
	checkNothing(t, x, api.OK, func(x *Tree) api.Errno { return x.Rename("a", "a") })
	checkNothing(t, x, api.OK, func(x *Tree) api.Errno { return x.Rename("d/e", "d/e") })
	checkDone(t, x, x.Rename("a", "c"), api.OK, "b=345@2 c=12@1 d/e=6@3 6/4")
	checkDone(t, x, x.Rename("c", "b"), api.OK, "b=12@1 d/e=6@3 3/5")
	checkDone(t, x, x.Rename("b", "b/c"), api.OK, "b/c=12@1 d/e=6@3 3/6")
	checkDone(t, x, x.Rename("d/e", "d"), api.OK, "b/c=12@1 d=6@3 3/7")
	checkDone(t, x, x.Append("d", "7"), api.OK, "b/c=12@1 d=67@8 4/8")
	checkDone(t, x, x.Rename("d", "b/c"), api.OK, "b/c=67@8 2/9")
	checkDone(t, x, x.Rename("b/c", "b"), api.OK, "b=67@8 2/10")
	checkDone(t, x, x.Write("a", ""), api.OK, "a=@11 b=67@8 2/11")
}

func TestRenameLeavesFromAloneOutOfAccount(t *testing.T) {
	x := made(t, 10)
	must(t, x.Write("a/b", "1"), x.Write("a/c", "2"))
	checkNothing(t, x, api.ErrThere, func(x *Tree) api.Errno { return x.Rename("a/b", "a") })
	checkNothing(t, x, api.ErrThere, func(x *Tree) api.Errno { return x.Rename("a/b", "a/c/d") })
	checkDone(t, x, x.Rename("a/b", "a/b/c"), api.OK, "a/b/c=1@1 a/c=2@2 2/3")
	must(t, x.Remove("a/c"))
	checkDone(t, x, x.Rename("a/b/c", "a"), api.OK, "a=1@1 1/5")
	checkDone(t, x, x.Rename("a", "a/x/y"), api.OK, "a/x/y=1@1 1/6")
	checkDone(t, x, x.Rename("a/x/y", "a/x"), api.OK, "a/x=1@1 1/7")
}

// F3: Read, Stat, All, Used

func TestReadAndStat(t *testing.T) {
	x := made(t, 100)
	must(t, x.Write("a/b", "x\x00y"), x.Append("c", ""))
	for _, c := range []struct {
		path, text string
		time       int
	}{{"a/b", "x\x00y", 1}, {"c", "", 2}} {
		if s, e := x.Read(c.path); s != c.text || e != api.OK {
			t.Errorf("Read(%s) = %q, %d", c.path, s, int(e))
		}
		if i, e := x.Stat(c.path); i != (Info{Size: len(c.text), Time: c.time}) || e != api.OK {
			t.Errorf("Stat(%s) = %v, %d", c.path, i, int(e))
		}
	}
	for _, p := range append(notPaths(), "a", "b", "a/b/c", "a/", "C") {
		if s, e := x.Read(p); s != "" || e != api.ErrNone {
			t.Errorf("Read(%q) = %q, %d", p, s, int(e))
		}
		if i, e := x.Stat(p); i != (Info{}) || e != api.ErrNone {
			t.Errorf("Stat(%q) = %v, %d", p, i, int(e))
		}
	}
	check(t, x, "a/b=x\x00y@1 c=@2 3/2")
}

func TestAllIsByPath(t *testing.T) {
	x := made(t, 100)
	if l := x.All(); len(l) != 0 {
		t.Error(l)
	}
	paths := []string{"b", "a/c", "a.c", "a0", "B", "_", "a-", "a+", "ab", "a_", "0", "-", ".x", "+", "Z/z", "a/b/c", "z"}
	for _, p := range paths {
		must(t, x.Write(p, p))
	}
	slices.Sort(paths)
	want := ""
	for _, p := range paths {
		want += p + "=" + p + " "
	}
	for range 20 { // the order of a map changes from one time to the next
		got := ""
		for _, f := range x.All() {
			got += f.Path + "=" + f.Text + " "
		}
		if got != want {
			t.Fatalf("All: %s, want %s", got, want)
		}
	}
	if want[:8] != "+=+ -=- " || !strings.Contains(want, " a+=a+ a-=a- a.c=a.c a/b/c=a/b/c a/c=a/c a0=a0 a_=a_ ab=ab ") {
		t.Errorf("the test's own order: %s", want)
	}
}

func TestUsed(t *testing.T) {
	x := made(t, 100)
	for _, c := range []struct {
		do   func() api.Errno
		want int
	}{
		{func() api.Errno { return x.Write("a", "123") }, 3},
		{func() api.Errno { return x.Append("b", "45") }, 5},
		{func() api.Errno { return x.Append("a", "6") }, 6},
		{func() api.Errno { return x.Write("a", "7") }, 3},
		{func() api.Errno { return x.Rename("a", "b") }, 1},
		{func() api.Errno { return x.Remove("b") }, 0},
	} {
		if must(t, c.do()); x.Used() != c.want {
			t.Errorf("Used() = %d, want %d", x.Used(), c.want)
		}
	}
}

// F4: Sync, Pending, Crash, Clone

func TestSyncAndPending(t *testing.T) {
	x := made(t, 10)
	x.Sync()
	check(t, x, "0/0")
	must(t, x.Write("a", "1"), x.Rename("a", "a"), x.Rename("a", "b"))
	x.Write("", "2")
	check(t, x, "b=1@1 1/2")
	x.Sync()
	check(t, x, "b=1@1 1/0")
	x.Sync()
	must(t, x.Remove("b"))
	check(t, x, "0/1")
	x.Crash(0, 0)
	check(t, x, "b=1@1 1/0")
}

func TestCrash(t *testing.T) {
	x := made(t, 100)
	must(t, x.Write("a", "old"), x.Write("k", "kept"))
	x.Sync()
	must(t, x.Write("b", "new"), x.Append("a", "er"), x.Rename("b", "a"), x.Remove("k"), x.Append("c", "xyz"))
	const (
		none  = "a=old@1 k=kept@2 7/0"
		one   = "a=old@1 b=new@3 k=kept@2 10/0"
		two   = "a=older@4 b=new@3 k=kept@2 12/0"
		three = "a=new@3 k=kept@2 7/0"
		four  = "a=new@3 3/0"
		five  = "a=new@3 c=xyz@7 6/0"
	)
	for _, c := range []struct {
		many, part int
		want       string
	}{
		{0, 0, none}, {-1, 0, none}, {math.MinInt, math.MinInt, none}, {0, -1, none}, {-1, -1, none},
		{0, 1, "a=old@1 b=n@3 k=kept@2 8/0"}, {0, 2, "a=old@1 b=ne@3 k=kept@2 9/0"}, {0, 3, one}, {0, 4, one}, {0, math.MaxInt, one}, {-1, 1, "a=old@1 b=n@3 k=kept@2 8/0"}, {math.MinInt, 3, one},
		{1, 0, one}, {1, -1, one}, {1, math.MinInt, one}, {1, 1, "a=olde@4 b=new@3 k=kept@2 11/0"}, {1, 2, two}, {1, 3, two}, {1, math.MaxInt, two},
		{2, 0, two}, {2, 1, two}, {2, 9, two}, {2, math.MaxInt, two},
		{3, 0, three}, {3, 1, three}, {3, math.MaxInt, three},
		{4, 0, four}, {4, 1, "a=new@3 c=x@7 4/0"}, {4, 2, "a=new@3 c=xy@7 5/0"}, {4, 3, five}, {4, 4, five},
		{5, 0, five}, {5, 1, five}, {6, 0, five}, {6, 9, five}, {math.MaxInt, 0, five}, {math.MaxInt, math.MaxInt, five}, {5, math.MinInt, five},
	} {
		y := x.Clone()
		if y.Crash(c.many, c.part); told(y) != c.want {
			t.Errorf("Crash(%d, %d): there is %s, want %s", c.many, c.part, told(y), c.want)
		}
		y.Crash(0, 1)
		check(t, y, c.want)
		must(t, y.Append("a", "!"))
		if i, _ := y.Stat("a"); i.Time != 8 || y.Pending() != 1 {
			t.Errorf("Crash(%d, %d): the next time is %d, pending %d", c.many, c.part, i.Time, y.Pending())
		}
		y.Crash(0, 0)
		check(t, y, c.want)
	}
	check(t, x, "a=new@3 c=xyz@7 6/5")
}

func TestCrashOfAWriteOverAFile(t *testing.T) {
	x := made(t, 10)
	must(t, x.Write("a", "12345678"))
	x.Sync()
	must(t, x.Write("a", "abcd"), x.Write("b", ""), x.Append("b", ""))
	for _, c := range []struct {
		many, part int
		want       string
	}{
		{0, 0, "a=12345678@1 8/0"}, {0, 1, "a=a@2 1/0"}, {0, 4, "a=abcd@2 4/0"}, {0, 5, "a=abcd@2 4/0"},
		{1, 0, "a=abcd@2 4/0"}, {1, 1, "a=abcd@2 b=@3 4/0"}, {2, 0, "a=abcd@2 b=@3 4/0"}, {2, 1, "a=abcd@2 b=@4 4/0"}, {3, 0, "a=abcd@2 b=@4 4/0"},
	} {
		y := x.Clone()
		if y.Crash(c.many, c.part); told(y) != c.want {
			t.Errorf("Crash(%d, %d): there is %s, want %s", c.many, c.part, told(y), c.want)
		}
	}
}

func TestCrashAheadOfAnySync(t *testing.T) {
	for _, c := range []struct {
		many, part int
		want       string
	}{{0, 0, "0/0"}, {-3, 1, "a=x@1 1/0"}, {1, 0, "a=xy@1 2/0"}, {1, 1, "a=xyz@2 3/0"}, {2, 0, "a=xyz@2 3/0"}, {9, 9, "a=xyz@2 3/0"}} {
		x := made(t, 10)
		must(t, x.Write("a", "xy"), x.Append("a", "z"))
		x.Crash(c.many, c.part)
		check(t, x, c.want)
	}
	x := made(t, 10)
	x.Crash(5, 5)
	check(t, x, "0/0")
	must(t, x.Write("a", "x"))
	check(t, x, "a=x@1 1/1")
}

func TestCrashBehindCrash(t *testing.T) {
	x := made(t, 10)
	must(t, x.Append("a", "12"), x.Append("a", "34"), x.Append("a", "56"))
	x.Crash(1, 1)
	check(t, x, "a=123@2 3/0")
	must(t, x.Append("a", "78"), x.Append("b", "9"))
	check(t, x, "a=12378@4 b=9@5 6/2")
	x.Crash(0, 1)
	check(t, x, "a=1237@4 4/0")
	x.Crash(7, 7)
	check(t, x, "a=1237@4 4/0")
	must(t, x.Append("a", "0"))
	check(t, x, "a=12370@6 5/1")
}

func TestRoomBehindACrash(t *testing.T) {
	x := made(t, 10)
	must(t, x.Write("a", "1234567890"))
	x.Sync()
	must(t, x.Write("a", ""), x.Write("b", "1234567890"))
	x.Crash(0, 0)
	checkNothing(t, x, api.ErrFull, func(x *Tree) api.Errno { return x.Write("b", "1") })
	must(t, x.Write("a", ""), x.Write("b", "1234567890"))
	x.Crash(1, 4)
	check(t, x, "a=@4 b=1234@5 4/0")
	checkNothing(t, x, api.ErrFull, func(x *Tree) api.Errno { return x.Append("a", "1234567") })
	must(t, x.Append("a", "123456"))
	y := made(t, 10)
	must(t, y.Write("a/b", ""))
	y.Crash(0, 0)
	must(t, y.Write("a", ""))
	check(t, y, "a=@2 0/1")
}

func TestClone(t *testing.T) {
	fresh := func() *Tree {
		x := made(t, 10)
		must(t, x.Write("a", "1"), x.Append("b", "2"))
		x.Sync()
		must(t, x.Append("a", "3"), x.Append("b", "4"), x.Remove("b"))
		return x
	}
	const now, first = "a=13@3 2/3", "a=13@3 b=2@2 3/0"
	for i, do := range []func(*Tree){
		func(x *Tree) {},
		func(x *Tree) { x.Append("a", "9") },
		func(x *Tree) { x.Write("a", "9"); x.Write("b", "9") },
		func(x *Tree) { x.Remove("a") },
		func(x *Tree) { x.Rename("a", "b") },
		func(x *Tree) { x.Sync() },
		func(x *Tree) { x.Crash(0, 0) },
		func(x *Tree) { x.Crash(1, 1); x.Append("b", "9") },
	} {
		for _, swap := range []bool{false, true} {
			changed := fresh()
			left := changed.Clone()
			if swap {
				changed, left = left, changed
			}
			do(changed)
			if told(left) != now {
				t.Errorf("change %d: the other one is %s, want %s", i, told(left), now)
			}
			changed.Append("a", "8")
			left.Append("a", "7")
			check(t, left, "a=137@6 3/4")
			left.Crash(1, 0)
			if told(left) != first {
				t.Errorf("change %d: the other one's crash is %s, want %s", i, told(left), first)
			}
		}
	}
	x := fresh()
	y := x.Clone()
	for range 9 { // both grow behind one another's ends
		must(t, x.Write("c", "x"), y.Write("d", "y"))
	}
	x.Crash(4, 0)
	y.Crash(4, 0)
	check(t, x, "a=13@3 c=x@6 3/0")
	check(t, y, "a=13@3 d=y@6 3/0")
	full := fresh()
	must(t, full.Append("a", "12345678"))
	checkNothing(t, full.Clone(), api.ErrFull, func(x *Tree) api.Errno { return x.Append("a", "1") })
}

// F1 to F5, held against the promises said in another way: each state is a list that is kept.

type entry struct {
	path, text string
	time       int
}

// model keeps what there was at the last sync, and behind each change since.
type model struct {
	room, clock int
	states      [][]entry
	changes     []step
}

type step struct {
	name, path, text string
}

func (m model) now() []entry { return m.states[len(m.states)-1] }

func find(l []entry, path string) int {
	return slices.IndexFunc(l, func(e entry) bool { return e.path == path })
}

func without(l []entry, path string) []entry {
	return slices.DeleteFunc(slices.Clone(l), func(e entry) bool { return e.path == path })
}

func with(l []entry, e entry) []entry {
	l = append(without(l, e.path), e)
	slices.SortFunc(l, func(a, b entry) int { return strings.Compare(a.path, b.path) })
	return l
}

// beginsWith is by parts: are those of a the first ones of b's?
func beginsWith(b, a string) bool {
	p, q := strings.Split(a, "/"), strings.Split(b, "/")
	return len(p) < len(q) && slices.Equal(p, q[:len(p)])
}

func fits(l []entry, path, skip string) bool {
	return !slices.ContainsFunc(l, func(e entry) bool {
		return e.path != skip && (beginsWith(e.path, path) || beginsWith(path, e.path))
	})
}

func size(l []entry) int {
	n := 0
	for _, e := range l {
		n += len(e.text)
	}
	return n
}

// put is what a Write or Append of s makes of l.
func put(l []entry, s step, time int) []entry {
	e := entry{s.path, s.text, time}
	if i := find(l, s.path); i >= 0 && s.name == "append" {
		e.text = l[i].text + s.text
	}
	return with(l, e)
}

func (m model) do(s step) (model, api.Errno) {
	l := m.now()
	i := find(l, s.path)
	var next []entry
	switch s.name {
	case "write", "append":
		if next = put(l, s, m.clock+1); !fits(l, s.path, "") {
			return m, api.ErrThere
		}
		if size(next) > m.room {
			return m, api.ErrFull
		}
	case "remove":
		if i < 0 {
			return m, api.ErrNone
		}
		next = without(l, s.path)
	case "rename":
		if i < 0 {
			return m, api.ErrNone
		}
		if s.text == "../bad" {
			return m, api.ErrArg
		}
		if s.path == s.text {
			return m, api.OK
		}
		if !fits(l, s.text, s.path) {
			return m, api.ErrThere
		}
		next = with(without(l, s.path), entry{s.text, l[i].text, l[i].time})
	}
	m.clock++
	m.states = append(slices.Clone(m.states), next)
	m.changes = append(slices.Clone(m.changes), s)
	return m, api.OK
}

func (m model) sync() model {
	m.states, m.changes = [][]entry{m.now()}, nil
	return m
}

func (m model) crash(many, part int) model {
	many = min(max(many, 0), len(m.changes))
	l := m.states[many]
	if many < len(m.changes) && part >= 1 {
		s := m.changes[many]
		if s.name == "write" || s.name == "append" {
			s.text = s.text[:min(part, len(s.text))]
			l = put(l, s, m.clock-len(m.changes)+many+1)
		}
	}
	m.states, m.changes = [][]entry{l}, nil
	return m
}

func (m model) told() string {
	s := ""
	for _, e := range m.now() {
		s += fmt.Sprintf("%s=%s@%d ", e.path, e.text, e.time)
	}
	return s + fmt.Sprintf("%d/%d", size(m.now()), len(m.changes))
}

func (s step) do(x *Tree) api.Errno {
	switch s.name {
	case "write":
		return x.Write(s.path, s.text)
	case "append":
		return x.Append(s.path, s.text)
	case "remove":
		return x.Remove(s.path)
	}
	return x.Rename(s.path, s.text)
}

func steps() []step {
	return []step{
		{"write", "a", "12"}, {"write", "b", "abc"}, {"write", "a/b", "-"}, {"append", "a", "xyz"}, {"append", "b", ""},
		{"remove", "a", ""}, {"remove", "b", ""}, {"rename", "a", "b"}, {"rename", "b", "a"}, {"rename", "b", "b"},
		{"rename", "a", "a/b"}, {"rename", "a/b", "a"}, {"rename", "b", "../bad"},
	}
}

func checkCrashes(t *testing.T, x *Tree, m model, did string) {
	t.Helper()
	for many := -1; many <= len(m.changes)+1; many++ {
		for part := -1; part <= 4; part++ {
			y := x.Clone()
			y.Crash(many, part)
			if want := m.crash(many, part).told(); told(y) != want || y.clock != m.clock {
				t.Fatalf("%s, Crash(%d, %d): there is %s, want %s", did, many, part, told(y), want)
			}
		}
	}
}

// walk goes all ways of at most left steps, syncs and crashes.
func walk(t *testing.T, x *Tree, m model, did string, left int) {
	if told(x) != m.told() {
		t.Fatalf("%s: there is %s, want %s", did, told(x), m.told())
	}
	checkCrashes(t, x, m, did)
	if left == 0 {
		return
	}
	before := told(x)
	for _, s := range steps() {
		y := x.Clone()
		next, want := m.do(s)
		if e := s.do(y); e != want {
			t.Fatalf("%s, %v: error %d, want %d", did, s, int(e), int(want))
		}
		walk(t, y, next, did+fmt.Sprint(s), left-1)
	}
	if len(m.changes) > 0 {
		y := x.Clone()
		y.Sync()
		walk(t, y, m.sync(), did+"{sync}", left-1)
		y = x.Clone()
		y.Crash(1, 2)
		walk(t, y, m.crash(1, 2), did+"{crash}", left-1)
	}
	if told(x) != before {
		t.Fatalf("%s: a clone's changes are seen: %s, was %s", did, told(x), before)
	}
}

func TestAllShortWays(t *testing.T) {
	x := made(t, 6)
	walk(t, x, model{room: 6, states: [][]entry{nil}}, "", 4)
}

// F5: what was synced is there behind any crash; a rename is whole

func TestWhatFollows(t *testing.T) {
	x := made(t, 1000)
	must(t, x.Write("synced", "safe"), x.Write("old", "before"))
	x.Sync()
	must(t, x.Write("new", "behind"), x.Append("new", " it"), x.Rename("new", "old"), x.Append("late", "zz"), x.Write("synced", "S"), x.Remove("old"))
	for many := -1; many <= 8; many++ {
		for part := -1; part <= 12; part++ {
			y := x.Clone()
			y.Crash(many, part)
			s, e := y.Read("synced")
			if changed := many >= 5 || many == 4 && part >= 1; changed != (s == "S") || !changed && s != "safe" || e != api.OK {
				t.Errorf("Crash(%d, %d): synced is %q, %d", many, part, s, int(e))
			}
			old, e := y.Read("old")
			if want := map[bool]string{many < 3: "before", many >= 3 && many < 6: "behind it", many >= 6: ""}[true]; old != want || (e == api.OK) != (many < 6) {
				t.Errorf("Crash(%d, %d): old is %q, %d", many, part, old, int(e))
			}
			if _, e := y.Read("new"); many >= 3 && e != api.ErrNone {
				t.Errorf("Crash(%d, %d): new is there still", many, part)
			}
		}
	}
}

// P1: a tree that New did not make, and much of everything

func TestATreeOfNoRoom(t *testing.T) {
	for _, do := range []func(*Tree){
		func(x *Tree) { x.Sync() }, func(x *Tree) { x.Crash(1, 1) }, func(x *Tree) { x.Clone() }, func(x *Tree) {},
	} {
		x := new(Tree)
		do(x)
		check(t, x, "0/0")
		checkNothing(t, x, api.ErrFull, func(x *Tree) api.Errno { return x.Write("a", "x") })
		checkNothing(t, x, api.ErrNone, func(x *Tree) api.Errno { return x.Remove("a") })
		checkNothing(t, x, api.ErrNone, func(x *Tree) api.Errno { return x.Rename("a", "b") })
		must(t, x.Append("a", ""), x.Rename("a", "b"), x.Write("a", ""))
		check(t, x.Clone(), "a=@3 b=@1 0/3")
		x.Crash(1, 1)
		check(t, x, "a=@1 0/0")
	}
}

func TestMuchOfEverything(t *testing.T) {
	x := made(t, 1<<30)
	piece := xs(64)
	for range 1 << 18 {
		must(t, x.Append("log", piece))
	}
	if x.Append("log", "x") != api.ErrLong || x.Pending() != 1<<18 || x.Used() != api.MaxFile {
		t.Error(x.Pending(), x.Used())
	}
	y := x.Clone()
	y.Crash(1<<18-1, 63)
	if s, _ := y.Read("log"); s != xs(api.MaxFile-1) {
		t.Errorf("%d bytes behind the crash", len(s))
	}
	if i, _ := y.Stat("log"); i.Time != 1<<18 {
		t.Error(i)
	}
	long := strings.Repeat("a/", 1<<20)
	if x.Write(long, long) != api.ErrArg || x.Remove(long) != api.ErrNone || x.Rename("log", long) != api.ErrArg {
		t.Error("a long path")
	}
}

// P3: what is answered is new, and no one else's

func TestListsAnsweredAreNew(t *testing.T) {
	x := made(t, 100)
	must(t, x.Write("a", "1"), x.Write("b", "2"))
	l := x.All()
	l[0] = api.File{Path: "z", Text: "9"}
	_ = append(l[:1], api.File{Path: "y"})
	check(t, x, "a=1@1 b=2@2 2/2")
	k := x.All()
	must(t, x.Append("a", "3"), x.Remove("b"))
	if !slices.Equal(k, []api.File{{Path: "a", Text: "1"}, {Path: "b", Text: "2"}}) {
		t.Error("a list that was answered changed:", k)
	}
	s, _ := x.Read("a")
	must(t, x.Append("a", "4"), x.Append("a", "5"), x.Write("a", "6"))
	if s != "13" {
		t.Errorf("a text that was answered changed: %q", s)
	}
}

// P4: two trees with which the same was done tell the same

func TestTreesHangOnWhatWasDoneAlone(t *testing.T) {
	x, y := made(t, 50), made(t, 50)
	for i := range 2000 {
		s := steps()[i*i%13]
		if a, b := s.do(x), s.do(y); a != b {
			t.Fatal(i, s, a, b)
		}
		switch i % 17 {
		case 5:
			x.Sync()
			y.Sync()
		case 11:
			x.Crash(i%3, i%4)
			y.Crash(i%3, i%4)
		}
		if told(x) != told(y) {
			t.Fatal(i, told(x), told(y))
		}
	}
}

// The examples of the chapter.

func TestExamples(t *testing.T) {
	for _, c := range []struct {
		many, part int
		want       []api.File
	}{
		{1, 0, []api.File{{Path: "a", Text: "x"}, {Path: "t", Text: "yz"}}},
		{0, 1, []api.File{{Path: "a", Text: "x"}, {Path: "t", Text: "y"}}},
		{9, 0, []api.File{{Path: "a", Text: "yz"}}},
	} {
		x := made(t, 10)
		must(t, x.Write("a", "x"))
		x.Sync()
		must(t, x.Write("t", "yz"), x.Rename("t", "a"))
		x.Crash(c.many, c.part)
		if l := x.All(); !slices.Equal(l, c.want) {
			t.Errorf("Crash(%d, %d): All() = %v, want %v", c.many, c.part, l, c.want)
		}
	}
}
