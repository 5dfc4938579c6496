package vars

import (
	"fmt"
	"runtime"
	"slices"
	"strconv"
	"strings"
	"testing"

	"cooperage/api"
	"cooperage/call"
)

// made sets variables, each told as `name=text`, or, a simple one, as `name:=text`.
func made(l ...string) Vars {
	var v Vars
	for _, s := range l {
		name, x, _ := strings.Cut(s, "=")
		name, isSimple := strings.CutSuffix(name, ":")
		v = Set(v, Var{Name: name, Text: x, Simple: isSimple})
	}
	return v
}

// is holds what a text expands to against what it must be.
func is(t *testing.T, v Vars, s, want string) {
	t.Helper()
	if got, e := Expand(v, s); got != want || e != api.OK {
		t.Errorf("Expand(%s) = %s, %d, want %s", quoted(s), quoted(got), int(e), quoted(want))
	}
}

// isWrong is is for texts that err.
func isWrong(t *testing.T, v Vars, s string, want api.Errno) {
	t.Helper()
	if got, e := Expand(v, s); got != "" || e != want {
		t.Errorf("Expand(%s) = %s, %d, want %d", quoted(s), quoted(got), int(e), int(want))
	}
}

// quoted tells a text for a failure; of a long one the ends and the size.
func quoted(s string) string {
	if len(s) > 300 {
		return fmt.Sprintf("%q..%q (%d bytes)", s[:60], s[len(s)-60:], len(s))
	}
	return strconv.Quote(s)
}

// xs is a text of n bytes.
func xs(n int) string { return strings.Repeat("x", n) }

// texts tells all texts of at most size pieces.
func texts(size int, pieces ...string) []string {
	all := []string{""}
	start := 0
	for range size {
		end := len(all)
		for _, s := range all[start:end] {
			for _, piece := range pieces {
				all = append(all, s+piece)
			}
		}
		start = end
	}
	return all
}

func TestExamples(t *testing.T) {
	is(t, made("a=x $(b)", "b:=y"), "$(a) $b$$", "x y y$")
	is(t, made("s:=p.c q.c"), "$(s:.c=.o) $(foreach i,$(s),<$(i)>)", "p.o q.o <p.c> <q.c>")
	f := made("f=$(2)$(1)")
	is(t, f, "$(call f,a,b)", "ba")
	is(t, f, "$(if ,x,y)", "y")
	if MaxSteps != 2000 {
		t.Error(MaxSteps)
	}
}

// V1

func TestGet(t *testing.T) {
	l := []Var{{"", "nothing", true}, {"B", "", true}, {"a", "x", false}, {"a.b", "$(a)", true}, {"ab", "y", false}, {"\xff", "z", true}}
	for _, x := range l {
		if got, is := Get(Vars{l}, x.Name); got != x || !is {
			t.Errorf("Get(%q) = %+v, %v, want %+v", x.Name, got, is, x)
		}
	}
	for _, v := range []Vars{{l}, {l[1:]}, {l[:1]}, {nil}, {[]Var{}}, {l[:0]}} {
		for _, name := range []string{"b", "A", "a.", "a.bc", "aa", "abc", " a", "a ", "C", "\xfe", "\xff\xff", "\x00", strings.Repeat("a", 1<<16)} {
			if got, is := Get(v, name); got != (Var{}) || is {
				t.Errorf("Get(%q) of %+v = %+v, %v", name, v, got, is)
			}
		}
	}
	for _, v := range []Vars{{nil}, {[]Var{}}, {l[1:3:3]}, {l[1:3]}} {
		for _, name := range []string{"", "a.b", "ab", "\xff"} { // some stand behind the length
			if got, is := Get(v, name); got != (Var{}) || is {
				t.Errorf("Get(%q) of %+v = %+v, %v", name, v, got, is)
			}
		}
	}
}

func TestGetTellsTheFirstOneOfVariablesInAnyOrder(t *testing.T) {
	v := Vars{[]Var{{"c", "1", false}, {"a", "2", true}, {"c", "3", true}, {"b", "4", false}, {"a", "5", false}}}
	for name, want := range map[string]Var{"a": {"a", "2", true}, "b": {"b", "4", false}, "c": {"c", "1", false}} {
		if got, is := Get(v, name); got != want || !is {
			t.Errorf("Get(%q) = %+v, %v, want %+v", name, got, is, want)
		}
	}
	if got, is := Get(v, "d"); got != (Var{}) || is {
		t.Errorf("Get of none = %+v, %v", got, is)
	}
}

func TestSet(t *testing.T) {
	l := []Var{{"b", "1", true}, {"d", "2", false}, {"f", "3", true}}
	for _, c := range []struct {
		name   string
		at     int
		isMore bool
	}{
		{"", 0, true}, {"B", 0, true}, {"a", 0, true}, {"aa", 0, true}, {"b", 0, false}, {"b.", 1, true}, {"c", 1, true}, {"d", 1, false},
		{"d\x00", 2, true}, {"e", 2, true}, {"f", 2, false}, {"ff", 3, true}, {"g", 3, true}, {"\xff", 3, true},
	} {
		for _, x := range []Var{{c.name, "new", false}, {c.name, "", true}} {
			behind := l[c.at:]
			if !c.isMore {
				behind = l[c.at+1:]
			}
			want := slices.Concat(l[:c.at], []Var{x}, behind)
			if got := Set(Vars{l}, x); !slices.Equal(got.L, want) {
				t.Errorf("Set(%+v) = %+v, want %+v", x, got.L, want)
			}
		}
	}
	for _, v := range []Vars{{nil}, {[]Var{}}, {l[:0]}} {
		if got := Set(v, Var{"x", "y", true}); !slices.Equal(got.L, []Var{{"x", "y", true}}) {
			t.Errorf("Set among none = %+v", got.L)
		}
	}
}

func TestVariablesStandByTheirNames(t *testing.T) {
	names := []string{"", ".", "A", "Z", "_", "a", "a.b", "ab", "b", "\x80", "\xff"}
	n := 1
	for range 1000 {
		var v Vars
		last := map[string]Var{}
		for i := range 15 {
			n = n * 48271 % (1<<31 - 1)
			x := Var{names[n%len(names)], strconv.Itoa(i), n/100%2 == 0}
			v = Set(v, x)
			last[x.Name] = x
		}
		if len(v.L) != len(last) || !slices.IsSortedFunc(v.L, func(a, b Var) int { return strings.Compare(a.Name, b.Name) }) {
			t.Fatalf("%+v", v.L)
		}
		for name, want := range last {
			if got, is := Get(v, name); got != want || !is {
				t.Fatalf("Get(%q) of %+v = %+v, want %+v", name, v.L, got, want)
			}
		}
	}
}

// V2

func TestDollarSigns(t *testing.T) {
	v := made("a:=x$(b)", "b:=$$ $(a)", "ab=no", "$=no", "$$=no", "\n=line", "()=no")
	for s, want := range map[string]string{
		"": "", "a": "a", " a\tb\n": " a\tb\n", "abc )}({:=,%": "abc )}({:=,%", "\xff\x00é": "\xff\x00é",
		"$$": "$", "$$$$": "$$", "a$$b": "a$b", "$$(a)": "$(a)", "$${a": "${a", "$$a": "$a", "$$$$(a": "$$(a", "$$)": "$)",
		"$a": "x$(b)", "$b": "$$ $(a)", "$ab": "x$(b)b", "$$$b": "$$$ $(a)", "$b$$": "$$ $(a)$", "$a$b": "x$(b)$$ $(a)",
		"$(b)": "$$ $(a)", "${b}": "$$ $(a)", "<$(b)>": "<$$ $(a)>", "$(b)b)": "$$ $(a)b)", "${b}}": "$$ $(a)}", "$(a)$(a)": "x$(b)x$(b)",
		"$z": "", "$(z)": "", "${z}": "", "$()": "", "${}": "", "x$zy": "xy", "x$(z)y": "xy", "$\x00": "", "$\xff\xff": "\xff", "$%$@$1$ ": "", "$\n": "line", "$(\n)": "line",
	} {
		is(t, v, s, want)
	}
	for _, s := range []string{"$", "a$", "$$$", "$b$", "$(b)$", "$$$$$", "x y$", "$(strip $)", "$($)", "$(b:$=x)", "$(b$:x=y)", "$(b:x=$)", "$(z:x=$)", "$($(b)$)"} {
		isWrong(t, v, s, api.ErrForm)
	}
}

func TestDollarSignAndEachByte(t *testing.T) {
	for i := range 256 {
		b := string([]byte{byte(i)})
		for _, isSimple := range []bool{false, true} {
			v := Set(Set(Vars{}, Var{b, "told", isSimple}), Var{b + b, "other", true})
			switch s := "<$" + b + b + ">"; b {
			case "$":
				is(t, v, "<$$>", "<$>")
			case "(", "{":
				isWrong(t, v, s, api.ErrForm)
			default:
				is(t, v, s, "<told"+b+">")
				is(t, Vars{}, s, "<"+b+">")
			}
		}
	}
}

func TestWhatClosesAReference(t *testing.T) {
	v := made("a:=b", "b:=c", "a}=curly", "a)=round", "b}=built", "x$(y)=pair", "a(b=open", "(a=ahead")
	for s, want := range map[string]string{
		"$(a})": "curly", "${a)}": "round", "$(a{)": "", "$(a()": "", "$(a(b)": "open", "${a(b}": "open", "$(a(b))": "open)", "$((a)": "ahead",
		"$($(a))": "c", "${${a}}": "c", "$(${a})": "c", "${$(a)}": "c", "$($(a))b)": "cb)", "$($(a)})": "built", "$($a)": "c", "${$a}": "c", "$($($(a)))": "",
		"$(x$$(y))": "pair", "$($$))": ")", "$(if x,$(a))$(b)": "bc", "$(if x,(a))": "(a)", "$(if x,$(if y,(a)))": "(a)", "${if x,(a)}": "(a)", "${if x,{a}}": "{a}",
	} {
		is(t, v, s, want)
	}
	for _, s := range []string{
		"$(", "${", "$(a", "${a", "$(a}", "${a)", "$($(a)", "${${a}", "$($(a}", "$(${a)}", "$(${a)", "$(a$(", "a$(b", "$(a)$(b", "$(x$$(y)", "$(a$${)", "$(if x,y", "$(a$(b})", "${$(a}}",
		"$(if ,$(a,b)", strings.Repeat("$(", 1<<16), strings.Repeat("$(", 1<<16) + strings.Repeat(")", 1<<16-1),
	} {
		isWrong(t, v, s, api.ErrForm)
	}
}

// V3: what is a function

func TestFirstWord(t *testing.T) {
	v := made("if=1", "foreach=2", "call=3", "sort=4", "strip=5", "f:=sort", "sort b a=6", " sort b a=7", "\tsort b a=8", "sort\nb a=9", "sort,b a=10", "shell b a=11", "Sort b a=12", "sorts b a=13", "if,x,y=14", "b a=15", " =16", "sor t=17")
	for s, want := range map[string]string{
		"$(if)": "1", "$(foreach)": "2", "$(call)": "3", "$(sort)": "4", "${strip}": "5", "$(subst)": "",
		"$(sort b a)": "a b", "${sort b a}": "a b", "$(sort\tb a)": "a b", "$(sort \t b\ta)": "a b", "$(sort )": "", "$(strip\t)": "", "$(sort  \t )": "",
		"$( sort b a)": "7", "$(\tsort b a)": "8", "$(sort\nb a)": "9", "$(sort,b a)": "10", "$(shell b a)": "11", "$(Sort b a)": "12", "$(sorts b a)": "13", "$(if,x,y)": "14",
		"$($(f) b a)": "6", "$($f b a)": "6", "$(sort$(z) b a)": "6", "$($(z)sort b a)": "6", "$(b a)": "15", "$( )": "16", "$(sor t)": "17",
		"$(sort:4=x)": "x", "$(if:1=x)": "x", "$(sort a:b=c)": "a:b=c", "$(call :b=c)": "", "$(subst :,;,a:b=c)": "a;b=c",
	} {
		is(t, v, s, want)
	}
	isWrong(t, v, "$(if )", api.ErrArg)
	isWrong(t, v, "$(subst )", api.ErrArg)
	isWrong(t, v, "$(foreach\t)", api.ErrArg)
}

func TestFunctionsOfWords(t *testing.T) {
	v := made("l=b.c a/d.h  b.c", "p:=%.c", "q:=%.o", "one:=2")
	for s, want := range map[string]string{
		"$(subst b,x,$(l))": "x.c a/d.h  x.c", "$(patsubst $(p),$(q),$(l))": "b.o a/d.h b.o", "$(strip $(l))": "b.c a/d.h b.c", "$(findstring d.h ,$(l))": "d.h ",
		"$(filter $(p),$(l))": "b.c b.c", "$(filter-out $(p),$(l))": "a/d.h", "$(sort $(l))": "a/d.h b.c", "$(word $(one),$(l))": "a/d.h", "$(wordlist $(one),3,$(l))": "a/d.h b.c",
		"$(words $(l))": "3", "$(firstword $(l))": "b.c", "$(lastword $(l))": "b.c", "$(dir $(l))": "./ a/ ./", "$(notdir $(l))": "b.c d.h b.c", "$(suffix $(l))": ".c .h .c",
		"$(basename $(l))": "b a/d b", "$(addsuffix x,$(l))": "b.cx a/d.hx b.cx", "$(addprefix x,$(l))": "xb.c xa/d.h xb.c", "$(join $(l),1 2)": "b.c1 a/d.h2 b.c",
		"$(words $(sort $(basename $(notdir $(l)))))": "2", "$(word $(words $(l)),$(l))": "b.c",
	} {
		is(t, v, s, want)
	}
	for _, s := range []string{"$(word 0,a)", "$(word x,a)", "$(word $(l),a)", "$(word ,a)", "$(wordlist 0,1,a)", "$(wordlist 1,$(z),a)"} {
		isWrong(t, v, s, api.ErrArg)
	}
	for name, many := range map[string]int{"subst": 3, "patsubst": 3, "strip": 1, "findstring": 2, "filter": 2, "filter-out": 2, "sort": 1, "word": 2, "wordlist": 3, "words": 1,
		"firstword": 1, "lastword": 1, "dir": 1, "notdir": 1, "suffix": 1, "basename": 1, "addsuffix": 2, "addprefix": 2, "join": 2} {
		args := []string{"1", "2", "a 1.2 b/1"}[3-many:]
		want, _ := call.Call(name, args)
		is(t, v, "$("+name+" "+strings.Join(args, ",")+")", want)
		is(t, v, "$("+name+")", "")
		for few := 1; few < many; few++ {
			isWrong(t, v, "$("+name+" "+strings.Join(args[:few], ",")+")", api.ErrArg)
		}
	}
}

// V3: arguments

func TestArguments(t *testing.T) {
	v := made("c:=,", "l:=a,b,c", "x,y:=,", "e=", "r=$(r)")
	for s, want := range map[string]string{
		// those that are more than a function takes are in the last one
		"$(sort b,a)": "b,a", "$(sort b , a )": ", a b", "$(subst a,b,c,a)": "c,b", "$(subst a,b,a,,a)": "b,,b", "$(words a,b,c)": "1", "$(if x,1,2,3)": "1", "$(if ,1,2,3)": "2,3", "$(if ,1,2,3,)": "2,3,", "$(foreach i,a b,$(i),)": "a, b,",
		// what is open hides commas, what is not is cut there
		"$(subst $(x,y),;,$(l))": "a;b;c", "$(subst ${x,y},;,$(l))": "a;b;c", "$(if $(subst a,,b),1,2)": "1", "$(if ${subst a,,a},1,2)": "2", "${subst (a,b),(a(a}": "b)b)", "${subst {a,b,{a{a}": "bb",
		"$(subst $$(a,b),x,$$(a,b))": "x", "$(subst $c,;,a,b)": "a;b",
		// what is expanded is not cut again
		"$(subst $(c),;,$(l))": "a;b;c", "$(if $(l),$(l))": "a,b,c", "$(words $(l))": "1", "$(if ,$(l),$(l)$(c))": "a,b,c,",
		// blanks: the left end of all is trimmed, nothing else
		"$(subst \t a,b,a)": "b", "$(subst a , b,a a )": " b b", "$(subst a,b, a )": " b ", "$(if x, y )": " y ", "$(if x,\ty\t,z)": "\ty\t", "$(addsuffix  a ,b)": "ba ", "$(findstring   ,a b)": "",
		// none at all is one without a byte
		"$(subst ,,)": "", "$(subst ,,a)": "a", "$(if ,)": "", "$(if ,,)": "", "$(foreach ,,)": "", "$(call )": "", "$(call ,,)": "", "$(strip ,)": ",", "$(join ,)": "", "$(join a,)": "a", "$(join ,a)": "a",
	} {
		is(t, v, s, want)
	}
	isWrong(t, v, "$(subst $,,;,a,b)", api.ErrForm) // cut first, so that a `$` is the last byte
}

func TestTooFewArguments(t *testing.T) {
	v := made("c:=,", "r=$(r)", "l:=a,b,c")
	for _, s := range []string{
		"$(if x)", "$(if )", "$(if $(c))", "$(if $(l))", "$(foreach i)", "$(foreach i,a)", "$(foreach i,$(l))", "$(foreach )", "$(subst a)", "$(subst a,b)", "$(subst $(l),)", "$(filter a)", "$(word 1)", "$(join )",
		"$(if $(subst a,b,c))", "$(foreach ${subst a,b,c},d)", "$(if (a)", "$(subst $$(a,b,c))", "x$(if x)y",
		// nothing of it is expanded
		"$(if $)", "$(if $(r))", "$(foreach $,$(r))", "$(subst $(r),$)", "$(word $(r))", "$(if " + xs(5000) + ")", "$(if $(if x))",
	} {
		isWrong(t, v, s, api.ErrArg)
	}
	isWrong(t, v, "$(if $(if x),y)", api.ErrArg)
	isWrong(t, v, "$(if x,$(if x))", api.ErrArg)
	is(t, v, "$(if x,y,$(if x))", "y")
	isWrong(t, made("a=$(if x)"), "$(a)", api.ErrArg)
}

// V3: if

func TestIf(t *testing.T) {
	v := made("e=", "b:= \t ", "x=$(e)x", "r=$(r)", "y:= y ")
	for s, want := range map[string]string{
		"$(if x,1)": "1", "$(if x,1,2)": "1", "$(if ,1)": "", "$(if ,1,2)": "2", "$(if  ,1)": "", "$(if  \t ,1,2)": "2", "$(if x ,1,2)": "1", "$(if x y,1,2)": "1", "$(if \n,1,2)": "1", "$(if 0,1,2)": "1",
		"$(if $(e),1,2)": "2", "$(if $(b),1,2)": "2", "$(if $(none),1,2)": "2", "$(if $(e) $(b),1,2)": "2", "$(if $(x),1,2)": "1", "$(if $(b)$(x),1,2)": "1", "$(if $$,1,2)": "1", "$(if $(e)$$,1,2)": "1",
		"$(if x,$(y),2)": " y ", "$(if ,1,$(y))": " y ", "$(if x,$(b))": " \t ", "$(if x,)": "", "$(if x,,2)": "", "$(if ,1,)": "",
		"$(if x,1,$)": "1", "$(if ,$,2)": "2", "$(if ,$)": "", "$(if x,1,$(r))": "1", "$(if ,$(r),2)": "2", "$(if ,$(r))": "", "$(if x,1," + xs(9000) + ")": "1", "$(if x,1,$(if ))": "1",
		"$(if $(if ,x),1,$(if x,2))": "2", "$(if x,$(if ,1,$(if x,2,3)),4)": "2",
	} {
		is(t, v, s, want)
	}
	for s, want := range map[string]api.Errno{
		"$(if $,1,2)": api.ErrForm, "$(if x,$,2)": api.ErrForm, "$(if ,1,$)": api.ErrForm, "$(if $(r),1,2)": api.ErrDeep, "$(if x,$(r),$)": api.ErrDeep, "$(if ,$,$(r))": api.ErrDeep, "$(if $,$(r))": api.ErrForm, "$(if $(r),$)": api.ErrDeep,
	} {
		isWrong(t, v, s, want)
	}
}

// V3: foreach

func TestForeach(t *testing.T) {
	v := made("i:=old", "j=<$(i)>", "l=a b", "n:= i ", "e=", "d:=$(i) $$", "if=x", "both=$(foreach i,1 2,$(i)$(j))")
	for s, want := range map[string]string{
		"$(foreach i,,x)": "", "$(foreach i, \t ,x)": "", "$(foreach i,$(e),x)": "", "$(foreach i,a,<$(i)>)": "<a>", "$(foreach i, a \t b ,<$(i)>)": "<a> <b>", "$(foreach i,a a,$(i)$i${i})": "aaa aaa", "$(foreach i,$(l) $(l),$(i))": "a b a b",
		"$(foreach i,a b c,)": "  ", "$(foreach i,a b c,x)": "x x x", "$(foreach i,a b, $(i) )": " a   b ", "$(foreach i,a b,$(i),$(i))": "a,a b,b", "$(foreach i,a b,x y)": "x y x y", "$(foreach i,a\nb c,<$(i)>)": "<a\nb> <c>",
		// its variable is the one that is asked for, also from afar, and not behind it
		"$(i)$(foreach i,a b,$(i))$(i)": "olda bold", "$(foreach i,a b,$(j))$(j)": "<a> <b><old>", "$(foreach k,a b,$(k))$(k)": "a b", "$(foreach i,a b,$(call j))": "<a> <b>", "$(both)$(j)": "1<1> 2<2><old>", "$(foreach j,a,$(both))": "1a 2a",
		// within one another
		"$(foreach i,a b,$(foreach i,1 2,$(i)))": "1 2 1 2", "$(foreach i,a b,$(foreach i,$(i)1 $(i)2,<$(i)>)$(i))": "<a1> <a2>a <b1> <b2>b", "$(foreach i,a b,$(foreach k,1 2,$(i)$(k)))": "a1 a2 b1 b2", "$(foreach i,$(foreach i,a b,$(i)x),$(i)y)": "axy bxy",
		// its name
		"$(foreach $(n),a b,<$(i)>)": "<a> <b>", "$(foreach \t i ,a b,<$(i)>)": "<a> <b>", "$(foreach i$(e),a,$(i))": "a", "$(foreach x y,a b,<$(x y)>)": "<a> <b>", "$(foreach ,a b,<$()>)": "<a> <b>", "$(foreach  ,a b,<${}>)": "<a> <b>", "$(foreach if,a b,$(if))": "a b",
		"$(foreach j,i n,<$(j)$($(j))>)": "<iold> <n i >", "$(foreach a:b,x,$(a:b))": "x", "$(foreach $$,a,<$$>)": "<$>", "$(foreach i,old x,$(foreach $(i),new,$(old)$(x)))": "new new",
		// a word is not expanded any more
		"$(foreach i,$$(l) $$,<$(i)>)": "<$(l)> <$>", "$(foreach i,$(d),<$(i)>)": "<$(i)> <$$>", "$(foreach l,$$(l),$(l) $l)": "$(l) $(l)", "$(foreach i,a.c b.c,$(i:.c=.o))": "a.o b.o", "$(foreach i,a:c b,$(sort $(i) z))": "a:c z b z",
		// what is not needed does not matter
		"$(foreach i,,$)": "", "$(foreach i, ,$(foreach ))": "", "$(foreach i,a b,$(if $(filter b,$(i)),$(i)))": " b",
	} {
		is(t, v, s, want)
	}
	for s, want := range map[string]api.Errno{"$(foreach i,a,$)": api.ErrForm, "$(foreach $,,x)": api.ErrForm, "$(foreach i,$,x)": api.ErrForm, "$(foreach i,a b,$(word $(words $(filter b,$(i))),x))": api.ErrArg, "$(foreach i,$(word 0,a),$)": api.ErrArg} {
		isWrong(t, v, s, want)
	}
}

// V3: call

func TestCall(t *testing.T) {
	v := made("f=<$(0)|$(1)|$(2)>", "all=$(0)$(1)$(2)$(3)$(4)$(5)$(6)$(7)$(8)$(9)", "s:=$(1)$$", "n:= f ", "e=", "p=$$(1)", "1:=one", "2:=two", "a:=$(b)", "sort=$(1)s",
		"in=[$(call f,$(2),$(1))$(1)]", "out=$(call f)", "down=$(if $(1),$(1)$(call down,$(wordlist 2,9,$(1))))", "by=$(1)$(j)", "j=$(1)j")
	for s, want := range map[string]string{
		"$(call f)": "<f|one|two>", "$(call f,)": "<f||two>", "$(call f,a)": "<f|a|two>", "$(call f,a,b)": "<f|a|b>", "$(call f,a,b,c)": "<f|a|b>", "$(call f,,b)": "<f||b>", "${call f,a,b}": "<f|a|b>",
		"$(call all,a,b,c,d,e,f,g,h)": "allabcdefgh", "$(call all,a,b,c,d,e,f,g,h,i)": "allabcdefgh,i", "$(call all,a,b,c,d,e,f,g,h,i,j,)": "allabcdefgh,i,j,", "$(call all,,,,,,,,)": "all", "$(call all,a,b,c,d,e,f,g)": "allabcdefg",
		"$(call none)": "", "$(call none,a,b)": "", "$(call )": "", "$(call ,a)": "", "$(call e,a)": "", "$(call  )": "",
		// its name
		"$(call $(n),a,b)": "<f|a|b>", "$(call  \t f \t,a,b)": "<f|a|b>", "$(call $(e)f,a,b)": "<f|a|b>", "$(call $(n) f)": "", "$(call f g)": "", "$(call sort,a)": "as", "$(call 2,x)": "two",
		// what is handed in is expanded once, and no more; it is not trimmed
		"$(call f, a , b )": "<f| a | b >", "$(call f,$$(2),$$)": "<f|$(2)|$>", "$(call f,$(a),$(p))": "<f|$(b)|$(1)>", "$(call f,$(2),$(1))": "<f|two|one>", "$(call f,$(2),$(e))": "<f|two|>",
		// the text of a simple variable is expanded, too
		"$(call s,x)": "x$", "$(call s)": "one$", "$(call a)": "",
		// what stands outside is seen within, but for what hides it
		"$(call in,x,y)": "[<f|y|x>x]", "$(call out,x)": "<f|x|two>", "$(call by,x)": "xxj", "$(foreach f,x,$(call f))": "x", "$(foreach 1,x y,$(call f))": "<f|x|two> <f|y|two>", "$(call f,x)$(1)$(0)": "<f|x|two>one",
		// one that calls itself
		"$(call down,a b c)": "a b cb cc", "$(call down,a)": "a", "$(call down,)": "",
	} {
		is(t, v, s, want)
	}
	for s, want := range map[string]api.Errno{"$(call $)": api.ErrForm, "$(call f,$)": api.ErrForm, "$(call f,,$)": api.ErrForm, "$(call f,,,$)": api.ErrForm, "$(call none,$)": api.ErrForm, "$(call f,$(if ),$)": api.ErrArg} {
		isWrong(t, v, s, want)
	}
	isWrong(t, made("f=$(call f)"), "$(call f)", api.ErrDeep)
	isWrong(t, made("f=$(call f,$(1)x)"), "$(call f,)", api.ErrDeep)
	isWrong(t, made("f=$(call g)", "g:=$(call f)"), "$(call f)", api.ErrDeep)
	isWrong(t, made("f=x$(1"), "$(call f)", api.ErrForm)
}

func TestCallOfAnArgumentsName(t *testing.T) {
	v := made("0=zero$(0)", "1=one$(1)", "f=$(call 1,$(1)$(1))")
	is(t, v, "$(call 0)", "zero0")
	is(t, v, "$(call 0,x)", "zero0")
	is(t, v, "$(call 1,x)", "onex")
	is(t, v, "$(call f,x)", "x")
	is(t, v, "$(call f,$$(1)y)", "$(1)y$(1)yy")
	isWrong(t, v, "$(call 1)", api.ErrDeep)
	isWrong(t, v, "$(call 1,$(1))", api.ErrDeep)
}

// V3: a value, with its words turned or as it is

func TestWordsTurned(t *testing.T) {
	v := made("s:=p.c q.c r.h", "b= $(s) \t x.c", "n:=s", "c:=.c", "o:=.o", "e=", "pc:=%.c", "po:=%.o", "s :=blank", "d:=$(s) $$.c", "u_v:=w.c", "m:=v", "%:=% a%b")
	v = Set(v, Var{Name: "x=y", Text: "k.c"})
	for s, want := range map[string]string{
		// not open: the ends of words are turned
		"$(s:.c=.o)": "p.o q.o r.h", "${s:.c=.o}": "p.o q.o r.h", "$(s:c=x)": "p.x q.x r.h", "$(s:p.c=z)": "z q.c r.h", "$(s:.c=)": "p q r.h", "$(s:=.o)": "p.c.o q.c.o r.h.o", "$(s:=)": "p.c q.c r.h", "$(s:.C=x)": "p.c q.c r.h", "$(s:r.h=)": "p.c q.c ",
		"$(s:xp.c=z)": "p.c q.c r.h", "$(s: .c=x)": "p.c q.c r.h", "$(s:.c =x)": "p.c q.c r.h", "$(s:.c= x )": "p x  q x  r.h",
		// then a % in the place of it is a byte like any other one, since there are two
		"$(s:.c=%)": "%% %% r.h", "$(s:.c=x%)": "%x% %x% r.h", "$(s:.c=%%)": "%%% %%% r.h",
		// open
		"$(s:%.c=%.o)": "p.o q.o r.h", "$(s:%=x%y)": "xp.cy xq.cy xr.hy", "$(s:p%=z%)": "z.c q.c r.h", "$(s:%.c=x)": "x x r.h", "$(s:%.c=)": "  r.h", "$(s:%=%%)": "%% %% %%", "$(s:%=)": "  ", "$(s:p%c=%)": ". q.c r.h", "$(s:%.c=% %)": "% % % % r.h", "$(%:%=x%)": "x% xa%b",
		// two % are no pattern
		"$(s:%%=x)": "p.c q.c r.h", "$(s:%.%=x)": "p.c q.c r.h", "$(%:%%=x)": "% a%b", "$(%:%b%=x)": "% a%b",
		// the words of its value, each with one blank between
		"$(b:.c=.o)": "p.o q.o r.h x.o", "$(b:z=z)": "p.c q.c r.h x.c", "$(e:=x)": "", "$(none:=x)": "", "$(d:.c=x)": "$(s) $$x",
		// name, pattern and what it is turned to are expanded
		"$($(n):$(c)=$(o))": "p.o q.o r.h", "$($n:$c=$o)": "p.o q.o r.h", "$(s:$(pc)=$(po))": "p.o q.o r.h", "$(s:$(pc)=$(e)%$(e))": "p q r.h", "$(s:$(e)=$(o))": "p.c.o q.c.o r.h.o", "$(s:$$=x)": "p.c q.c r.h", "$(s:.c=$$)": "p$ q$ r.h", "$(u_$(m):.c=$(m))": "wv",
		"$(s:$(c)=$(n:=$(o)))": "ps.o qs.o r.h", "$(s:$(c:.c=.h)=x)": "p.c q.c rx", "$($(n:s=b):.h=.i)": "p.c q.c r.i x.c",
		// the first : outside, and the first = outside behind it
		"$(s:.c=a=b)": "pa=b qa=b r.h", "$(s:=:=)": "p.c:= q.c:= r.h:=", "$(s::=x)": "p.c q.c r.h", "$(s:.c:=x)": "p.c q.c r.h", "$(x=y:.c=.o)": "k.o", "$(:.c=.o)": "", "$(s :k=l)": "blanl", "$( s:.c=.o)": "",
	} {
		is(t, v, s, want)
	}
	for s, want := range map[string]api.Errno{"$($:a=b)": api.ErrForm, "$(s$:a=b)": api.ErrForm, "$(s:a$=b)": api.ErrForm, "$(s:a=b$)": api.ErrForm, "$(none:a=$)": api.ErrForm, "$(s:$(if )=b)": api.ErrArg} {
		isWrong(t, v, s, want)
	}
}

func TestASignAloneOrInsideTurnsNothing(t *testing.T) {
	var v Vars
	for name, x := range map[string]string{"s": "p.c", "s:x": "1", "s=x": "2", "x=s:y": "3", ":": "4", "=": "5", "s:2": "6", "2=x": "7", "sp.d": "8", "s:p=c": "9", "n": "s:x", "=:": "10"} {
		v = Set(v, Var{Name: name, Text: x, Simple: true})
	}
	for s, want := range map[string]string{
		"$(s:x)": "1", "$(s=x)": "2", "$(x=s:y)": "3", "$(:)": "4", "$(=)": "5", "$(=:)": "10", "$:": "4", "$=": "5", "$(s:$(s=x))": "6", "$(s${s:c=d})": "8", "$(s$(s:.c=.d))": "8", "$(s$(s:c=d))": "8", "$($(n))": "1", "$(s$(:)x)": "",
		"$(s$$:p=c)": "", "$($(s=x)=x)": "7",
	} {
		is(t, v, s, want)
	}
}

func TestNamesPutTogether(t *testing.T) {
	v := made("a:=b", "b=c", "bc:=1", "c:=2", "bd=$(c)", "2:=3", "a.b:=4", "q:=a.", "dir/x:=5", "a b:=6", "e=")
	for s, want := range map[string]string{
		"$($(a)c)": "1", "$($(a)$(b))": "1", "$($a$b)": "1", "$($(a)d)": "2", "$($($(a)d))": "3", "$($(q)$(a))": "4", "$(dir/x)": "5", "$(a $(a))": "6", "$($(e)a$(e))": "b", "$($(none))": "", "$($(c))": "3", "$(x$(a))": "", "$(a )": "", "$( a)": "", "$(A)": "",
	} {
		is(t, v, s, want)
	}
}

// V4

func TestValues(t *testing.T) {
	v := made("s:=$(a) $$ $", "a=x$$(b)$(b)", "b=[$(c)]", "c:=$(b)", "e=", "es:=", "w=  $(e) ", "l=$(none)")
	for s, want := range map[string]string{
		"$(s)": "$(a) $$ $", "$s": "$(a) $$ $", "$(a)": "x$(b)[$(b)]", "$a": "x$(b)[$(b)]", "$(b)": "[$(b)]", "$(c)": "$(b)", "$(e)": "", "$(es)": "", "$(w)": "   ", "$(l)": "", "<$(none)>": "<>", "$(s)$(s)": "$(a) $$ $$(a) $$ $",
	} {
		is(t, v, s, want)
	}
	for s, want := range map[string]api.Errno{"$(f)": api.ErrForm, "$(g)": api.ErrForm, "$(h)": api.ErrArg, "$f": api.ErrForm, "$(f:x=y)": api.ErrForm} {
		isWrong(t, made("f=x$", "g=$(b", "h=$(if )"), s, want)
	}
}

// V5: what is counted

// costs holds that just so many are counted while a text is expanded: as many
// others fit ahead of it as there is room for, and no more.
func costs(t *testing.T, v Vars, s string, want int) {
	t.Helper()
	const one = "$()" // of no variable
	if got, e := Expand(v, strings.Repeat(one, MaxSteps-want)+s); e != api.OK {
		t.Errorf("%s counts more than %d: %s, %d", quoted(s), want, quoted(got), int(e))
	}
	isWrong(t, v, strings.Repeat(one, MaxSteps-want+1)+s, api.ErrFuel)
}

func TestWhatIsCounted(t *testing.T) {
	v := made("a=x", "b:=y $(a)", "c=$(a)$(b)", "d=$a$b", "g=$(1)", "h:=$(a)", "m=a b", "e=", "bb=$(b)$(b)")
	for s, want := range map[string]int{
		"x": 0, "": 0, "$$": 0, "$$()": 0, "$()": 1, "${}": 1, "$(none)": 1, "$(b)": 1, "$(a)": 2, "$(c)": 2 + 2 + 1, "$(bb)": 4, "$(e)": 2, "$(a)$(a)": 4,
		// a `$` and a byte is not between `$(` and what closes it: just a value that is expanded is one
		"$z": 0, "$b": 0, "$a": 1, "$e": 1, "$d": 2, "$(d)": 3,
		// in a name, and a name's value
		"$($())": 2, "$($($()))": 3, "$($(e)a)": 4, "$(x$z)": 1,
		"$(strip x)": 1, "$(strip $(b))": 2, "$(subst $(),$(b),$(a))": 5, "$(sort )": 1,
		"$(if x,y)": 1, "$(if $(),$(a),$(b))": 3, "$(if $(b),$(a),$(b))": 4, "$(if ,$(a))": 1, "$(if ,$(a),)": 1,
		// each word of a foreach, but for the reference none where there is no word
		"$(foreach i,,$(a))": 1, "$(foreach i,w,)": 2, "$(foreach i,w w w,x)": 4, "$(foreach i,w w,$(i))": 5, "$(foreach i,w w,$i)": 3, "$(foreach i,w w,$(a))": 7, "$(foreach $(b),$(m),)": 6, "$(foreach i,w w,$(foreach j,1 2 3,$(j)))": 1 + 2*(1+1+3*2),
		// the text that is called is no value
		"$(call a)": 1, "$(call h)": 3, "$(call g,x)": 2, "$(call g,$(b))": 3, "$(call none)": 1, "$(call none,$(),$())": 3, "$(call $(none),$())": 3, "$(call c)": 4,
		"$(b:x=y)": 1, "$(a:x=y)": 2, "$(none:$()=$())": 3, "$($():=)": 2, "$(m:%=$())": 3,
	} {
		costs(t, v, s, want)
	}
}

func TestThe2000thAndThe2001st(t *testing.T) {
	v := made("e=", "s:=x", "a=$(s)", "two=$(s)$(s)")
	is(t, v, strings.Repeat("$(s)", 2000), xs(2000))
	isWrong(t, v, strings.Repeat("$(s)", 2001), api.ErrFuel)
	is(t, v, strings.Repeat("$(e)", 1000), "")
	isWrong(t, v, strings.Repeat("$(e)", 1001), api.ErrFuel)
	isWrong(t, v, strings.Repeat("$(e)", 999)+"$()$(e)", api.ErrFuel)
	is(t, v, strings.Repeat("$e", 2000), "")
	isWrong(t, v, strings.Repeat("$e", 2001), api.ErrFuel)
	is(t, v, strings.Repeat("$s", 4000), xs(4000))
	is(t, v, strings.Repeat("$z", 1<<18), "")
	words := func(n int) string { return strings.Repeat("a ", n) }
	is(t, v, "$(foreach i,"+words(1999)+",)", strings.Repeat(" ", 1998))
	isWrong(t, v, "$(foreach i,"+words(2000)+",)", api.ErrFuel)
	is(t, v, "$(foreach i,"+words(999)+",$(s))$()", strings.Repeat("x ", 998)+"x")
	isWrong(t, v, "$(foreach i,"+words(1000)+",$(s))", api.ErrFuel)
	isWrong(t, v, "$(foreach i,"+words(999)+",$(s))$()$()", api.ErrFuel)
	is(t, v, "$(foreach i,a b,$(foreach j,"+words(499)+",x))$(foreach i,a b,$(foreach j,"+words(496)+",))", strings.Repeat("x ", 997)+"x"+strings.Repeat(" ", 991))
	isWrong(t, v, "$(foreach i,a b,$(foreach j,"+words(998)+",))", api.ErrFuel)
	// what has begun is not given back: each text begins anew
	for range 3 {
		is(t, v, strings.Repeat("$(s)", 2000), xs(2000))
	}
}

// nests holds that there are just so many that lie within one another in a text.
func nests(t *testing.T, v Vars, s string, want int) {
	t.Helper()
	wrapped := func(n int) string { return strings.Repeat("$(if ,,", n) + s + strings.Repeat(")", n) }
	if got, e := Expand(v, wrapped(api.MaxDepth-want)); e != api.OK {
		t.Errorf("%s nests more than %d: %s, %d", quoted(s), want, quoted(got), int(e))
	}
	isWrong(t, v, wrapped(api.MaxDepth-want+1), api.ErrDeep)
}

func TestWhatIsWithin(t *testing.T) {
	v := made("a=x", "b:=y $(a)", "c=$(a)$(b)", "d=$a$b", "f=$(c)", "g=$(1)", "h:=$(a)", "m=a b", "e=", "k=$(call h)", "l=$(a:x=$(c))", "o=$(if ,$(f),$a)")
	for s, want := range map[string]int{
		"$()": 1, "${}": 1, "$(none)": 1, "$(b)": 1, "$(a)": 2, "$(c)": 4, "$(f)": 6, "$()$(b)$()": 1, "$(a)$(f)$(a)": 6,
		"$a": 1, "$d": 2, "$(d)": 3, "x$a": 1, "$c": 3, "$f": 5,
		"$($())": 2, "$($($()))": 3, "$($(a))": 3, "$($a)": 2, "$($a$(b)$(f))": 7,
		"$(strip x)": 1, "$(strip $(b))": 2, "$(strip $(c))": 5, "$(subst $(),$(),$(a))": 3, "$(subst $(a),,)": 3, "$(subst ,$(a),)": 3,
		"$(if x,y)": 1, "$(if $(a),)": 3, "$(if x,$(a))": 3, "$(if x,$(b),$(f))": 2, "$(if ,$(f),$(b))": 2, "$(o)": 4,
		"$(foreach $(a),,$(f))": 3, "$(foreach i,$(a),)": 3, "$(foreach i,$(e),$(f))": 3, "$(foreach i,w,)": 1, "$(foreach i,w,x)": 1, "$(foreach i,w,$(i))": 2, "$(foreach i,w w,$(a))": 3, "$(foreach i,w,$(foreach j,w,$i$j))": 2, "$(foreach a,w,$(f))": 6, "$(foreach c,w,$(f))": 4,
		"$(call a)": 1, "$(call h)": 3, "$(call g,)": 2, "$(call g,$(b))": 2, "$(call g,$(a))": 3, "$(call $(a))": 3, "$(call none,$(f))": 7, "$(call none,,,$(f))": 7, "$(k)": 5, "$(call k)": 4,
		"$(b:x=y)": 1, "$(a:x=y)": 2, "$(c:x=y)": 4, "$($(a):=)": 3, "$(b:$(a)=)": 3, "$(b:x=$(a))": 3, "$(l)": 7, "$(none:=)": 1, "$($(b:x=y):=)": 2,
	} {
		nests(t, v, s, want)
	}
}

func TestTwentyWithinOneAnotherOfEachKind(t *testing.T) {
	v := made("s:=a", "a:=s", "i:=a")
	for _, c := range [][2]string{
		{"$(", ")"}, {"${", "}"}, {"$(x", "y)"}, {"$(strip ", ")"}, {"$(subst ", ",b,c)"}, {"$(subst a,", ",c)"}, {"$(subst a,b,", ")"},
		{"$(if ", ",y)"}, {"$(if x,", ")"}, {"$(if x,", ",z)"}, {"$(if ,y,", ")"}, {"$(foreach ", ",,)"}, {"$(foreach i,", ",)"}, {"$(foreach i,w,", ")"},
		{"$(call ", ")"}, {"$(call none,", ")"}, {"$(call s,", ")"}, {"$(call none,1,2,3,4,5,6,7,", ")"}, {"$(", ":a=b)"}, {"$(s:", "=b)"}, {"$(s:a=", ")"}, {"$(none:a=", ")"},
	} {
		for n := 1; n <= 25; n++ {
			got, e := Expand(v, strings.Repeat(c[0], n)+strings.Repeat(c[1], n))
			if n <= 20 && e != api.OK || n > 20 && (got != "" || e != api.ErrDeep) {
				t.Errorf("%d of %q: %s, %d", n, c, quoted(got), int(e))
			}
		}
	}
	for n := range 24 {
		// each is two: a reference, and a value that is expanded
		chain, bytes, calls := Vars{}, Vars{}, Vars{}
		for i := range n {
			chain = Set(chain, Var{Name: "v" + strconv.Itoa(i), Text: "$(v" + strconv.Itoa(i+1) + ")"})
			bytes = Set(bytes, Var{Name: string(rune('a' + i)), Text: "$" + string(rune('a'+i+1))})
			calls = Set(calls, Var{Name: "v" + strconv.Itoa(i), Text: "$(call v" + strconv.Itoa(i+1) + ")", Simple: i%2 == 0})
		}
		for _, c := range []struct {
			v    Vars
			s    string
			isOK bool
		}{{chain, "$(v0)", 2*n+1 <= 20}, {chain, "$(strip $(v0))", 2*n+2 <= 20}, {bytes, "$a", n <= 20}, {bytes, "$(a)", n+1 <= 20}, {calls, "$(call v0)", n+1 <= 20}} {
			if c.isOK {
				is(t, c.v, c.s, "")
			} else {
				isWrong(t, c.v, c.s, api.ErrDeep)
			}
		}
	}
}

func TestOneThatRefersToItself(t *testing.T) {
	v := made("a=$(a)", "b=x$(c)", "c=$(d)y", "d=$b", "e=$e", "f=$(f:x=y)", "g=$(strip $(g))", "h=$(if $(h),x)", "i=$(foreach x,y,$(i))", "j=$(j)$(j)$(j)", "k=$($(k))", "l:=$(l)", "m=$(if ,$(m))", "n=$(foreach n,x y,$(n))", "o=$(a:x=$(o))", "p=$$(p)", "q=$(call q)")
	for _, name := range []string{"a", "b", "c", "d", "e", "f", "g", "h", "i", "j", "k", "o", "q"} {
		for _, s := range []string{"$" + name, "$(" + name + ")", "${" + name + ":x=y}", "$(if $(" + name + "),x)", "$(call " + name + ")", "$(foreach x,y,$(" + name + "))", "x $(" + name + ") $"} {
			isWrong(t, v, s, api.ErrDeep)
		}
	}
	is(t, v, "$(l)$(m)$(n)$(p)", "$(l)x y$(p)")
}

// V5: what is too long

// long tells texts in which something of n bytes is expanded, of each kind, by what
// it is; but for what it goes into nothing in them is longer.
func long(n int) map[string]string {
	x, blanks := xs(n), strings.Repeat(" ", n)
	list, each, value, more := "y z", xs((n-1)/2), "odd", xs((n-3)/2)
	if n%2 == 0 {
		list, each, value, more = "y zz", xs((n-4)/2)+"$(i)", "even", xs((n-4)/2)
	}
	return map[string]string{
		"an argument": "$(words " + x + ")", "the second argument": "$(subst a," + x + ",b)", "the third argument": "$(subst x,," + x + ")", "an argument that is expanded": "$(words $(part)" + x[n/3:] + ")",
		"what if asks": "$(if " + x + ",y)", "what if asks, and blanks": "$(if $()" + blanks + ",y)", "what if chooses": "$(if y," + x + ",z)", "what if chooses else": "$(if ,z," + x + ")",
		"the name of a foreach": "$(foreach " + x + ",,)", "the name of a foreach, and blanks": "$(foreach x" + blanks[1:] + ",,)", "the list of a foreach": "$(foreach i," + x + ",)", "a list of blanks": "$(foreach i," + blanks + ",y)",
		"the text for a word": "$(foreach i,y," + x + ")", "the words of a foreach": "$(foreach i," + list + "," + each + ")",
		"the name of a call": "$(call " + x + ")", "the name of a call, and blanks": "$(call x" + blanks[1:] + ")", "what is called with": "$(call none," + x + ")", "the last of what is called with": "$(call none,,,,,,,," + x + ")", "the text that is called": "$(call text)",
		"a name": "$(" + x + ")", "a name put together": "$($(part)" + x[n/3:] + ")", "the name of what is turned": "$(" + x + ":a=b)", "a pattern": "$(y:" + x + "=z)", "what it is turned to": "$(y:z=" + x + ")", "what none is turned to": "$(none:z=" + x + ")",
		"a value": "$(text)", "the value of a byte": "$t", "a value that is turned": "$(text:%=y)", "a simple value": "$(simple)", "the simple value of a byte": "$s", "a simple value that is turned": "$(simple:%=y)",
		"the words of a pattern": "$(" + value + ":%=%" + more + ")", "the words of ends": "$(" + value + ":y=" + more + "y)",
		"the answer of a function": "$(addprefix " + x[1:] + ",y)",
	}
}

func TestTextsMayHave4000Bytes(t *testing.T) {
	for _, n := range []int{3998, 3999, 4000, 4001, 4002, 9001} {
		v := made("text="+xs(n), "t="+xs(n), "simple:="+xs(n), "s:="+xs(n), "part="+xs(n/3), "y:=y", "odd:=y y", "even:=y yy")
		whole := []string{xs(n), "$(part)" + xs(n-n/3), strings.Repeat("$$", n), xs(n-1) + "$(y)", "$y" + xs(n-1)}
		for what, s := range long(n) {
			if n > 4000 {
				isWrong(t, v, s, api.ErrLong)
				isWrong(t, v, s+"$", api.ErrLong)
				continue
			}
			if got, e := Expand(v, s); e != api.OK {
				t.Errorf("%s of %d bytes: %s, %d", what, n, quoted(got), int(e))
			}
			isWrong(t, v, s+"$", api.ErrForm)
		}
		for _, s := range whole {
			if n > 4000 {
				isWrong(t, v, s, api.ErrLong)
			} else if got, e := Expand(v, s); len(got) != n || e != api.OK {
				t.Errorf("%d bytes: %s, %d", n, quoted(got), int(e))
			}
			isWrong(t, v, s+"$", api.ErrForm) // ahead of it nothing is whole
		}
	}
}

func TestWhatIsNotExpandedMayBeLong(t *testing.T) {
	many := xs(1 << 20)
	v := made("l:="+many, "e=", "ls:=a b "+strings.Repeat(" ", 3990))
	for s, want := range map[string]string{
		"$(if x,y," + many + ")": "y", "$(if ," + many + ",y)": "y", "$(if ,$(l),y)": "y", "$(foreach i,," + many + ")": "", strings.Repeat("$(e)", 1000): "", strings.Repeat("$z", 1<<20): "",
		"$(words $(subst $(e),,$(ls)))": "2", "$(if ," + many + ")": "",
	} {
		is(t, v, s, want)
	}
	isWrong(t, v, "$(if x,"+many+",y)", api.ErrLong)
	isWrong(t, v, many, api.ErrLong)
}

// V5: which error is told

func TestTheFirstErrorIsTold(t *testing.T) {
	const form, deep, arg = "$", "$(r)", "$(if )"
	more := xs(4001)
	fuel := strings.Repeat("$()", 2001)
	v := made("r=$(r)", "y:=y", "q=$", "l="+more, "fuel="+fuel, "w=l q", "u=q l", "g=$(1)$(2)")
	errs := []struct {
		s string
		e api.Errno
	}{{form, api.ErrForm}, {deep, api.ErrDeep}, {arg, api.ErrArg}, {"$(words " + more + ")", api.ErrLong}, {fuel, api.ErrFuel}, {"$(word 0,a)", api.ErrArg}, {"$(", api.ErrForm}}
	for _, a := range errs[1:6] { // each one is closed
		for _, b := range errs {
			if b.s != "$(" {
				for _, s := range []string{
					"$(subst A,B,x)", "$(subst x,A,B)", "$(if A,B,x)", "$(if A,x,B)", "$(foreach A,B,x)", "$(foreach A,x,B)", "$(foreach i,A,B)", "$(call A,B)", "$(call g,A,B)", "$(call none,x,A,B)", "$(A:B=x)", "$(A:x=B)", "$(y:A=B)", "$(none:A=B)", "$(foreach i,x y,A B)",
					"$(AB)", "$(A:x=y)B", "$(if x,A,B)", "$(if ,B,A)", "$(if x,A B)",
				} {
					isWrong(t, v, strings.NewReplacer("A", a.s, "B", b.s).Replace(s), a.e)
				}
			}
			isWrong(t, v, a.s+b.s, a.e)
			isWrong(t, v, a.s+more+b.s, a.e)
			isWrong(t, v, more+a.s+b.s, a.e)
			isWrong(t, v, "$(y)"+a.s+b.s, a.e)
		}
	}
	for s, want := range map[string]api.Errno{
		// arguments ahead of the answer; name, pattern and what it is turned to ahead of the value
		"$(word 0,$)": api.ErrForm, "$(word 0,$(r))": api.ErrDeep, "$(r:$=y)": api.ErrForm, "$(r:x=$)": api.ErrForm, "$(r:$(if )=$)": api.ErrArg, "$(q:x=$(r))": api.ErrDeep, "$(r:x=y)": api.ErrDeep, "$(l:x=$)": api.ErrForm, "$(l:x=$(r))": api.ErrDeep, "$(l:x=y)": api.ErrLong, "$(r$:x=y)": api.ErrForm,
		"$(call q,$(r))": api.ErrDeep, "$(call r,$)": api.ErrForm, "$(call l,$)": api.ErrForm, "$(call q,x)": api.ErrForm, "$(call l)": api.ErrLong,
		// what is whole is looked at ahead of what comes behind it
		"$(foreach i,l q,$($(i)))": api.ErrLong, "$(foreach i,q l,$($(i)))": api.ErrForm, "$(foreach i," + more + ",$)": api.ErrLong, "$(foreach " + more + ",$,x)": api.ErrLong, "$(foreach $," + more + ",x)": api.ErrForm, "$(subst " + more + ",$,x)": api.ErrLong, "$(subst $," + more + ",x)": api.ErrForm,
		"$(" + more + ":$=x)": api.ErrLong, "$(y:" + more + "=$)": api.ErrLong, "$(y:$=" + more + ")": api.ErrForm, "$(r:x=" + more + ")": api.ErrLong, "$(word 0," + more + ")": api.ErrLong, "$(if " + more + ",$)": api.ErrLong,
		// the words of a foreach are whole behind the last one
		"$(foreach i,a b c,$(if $(filter c,$(i)),$,$(wordlist 1,1,$(y))" + xs(3000) + "))": api.ErrForm, "$(foreach i,a b c,$(if $(filter c,$(i)),$(r))" + xs(3000) + ")": api.ErrDeep, "$(foreach i,a b c,$(if $(filter c,$(i)),y)" + xs(3000) + ")": api.ErrLong,
		// what is not closed is no reference, one that has too little is
		strings.Repeat("$()", 2000) + "$(": api.ErrForm, strings.Repeat("$()", 2000) + "$": api.ErrForm, strings.Repeat("$()", 2000) + "$(if x)": api.ErrFuel, strings.Repeat("$(if x,", 20) + "$(if x)" + strings.Repeat(")", 20): api.ErrDeep, strings.Repeat("$(if x,", 20) + "$" + strings.Repeat(")", 20): api.ErrForm,
		// both at once
		strings.Repeat("$()", 1980) + strings.Repeat("$(", 21) + strings.Repeat(")", 21): api.ErrDeep, strings.Repeat("$()", 1981) + strings.Repeat("$(", 21) + strings.Repeat(")", 21): api.ErrFuel,
		// the count goes on ahead of a word's text
		strings.Repeat("$()", 1998) + "$(foreach i,a,$)": api.ErrForm, strings.Repeat("$()", 1999) + "$(foreach i,a,$)": api.ErrFuel, "$(foreach i," + strings.Repeat("a ", 1999) + "b,)$": api.ErrFuel, "$(foreach i," + strings.Repeat("a ", 1998) + "b,)$": api.ErrForm,
	} {
		isWrong(t, v, s, want)
	}
}

func TestTextsBeyondAllMemoryAreTooLong(t *testing.T) {
	v := made("s:="+xs(4000), "t:="+xs(1<<20))
	var ahead, behind runtime.MemStats
	many := strings.Repeat("$s", 1<<16) // 250 MB, if all of it were put together
	runtime.ReadMemStats(&ahead)
	isWrong(t, v, many, api.ErrLong)
	runtime.ReadMemStats(&behind)
	if size := behind.TotalAlloc - ahead.TotalAlloc; size > 1<<24 {
		t.Errorf("%d bytes were taken", size)
	}
	isWrong(t, v, strings.Repeat("$s", 1<<20), api.ErrLong)
	isWrong(t, v, strings.Repeat("$s", 1<<20)+"$", api.ErrForm)
	isWrong(t, v, strings.Repeat("$t", 1<<20), api.ErrLong)
	isWrong(t, v, strings.Repeat("$(s)", 2000), api.ErrLong)
	isWrong(t, v, "$(foreach i,"+strings.Repeat("a ", 999)+",$(s))", api.ErrLong)
	isWrong(t, made("s:="+strings.Repeat("a ", 2000)), "$(s:%=%"+xs(3999)+")", api.ErrLong)
}

// V6

// becomes holds what an assignment makes of variables; want is told as made's are.
func becomes(t *testing.T, v Vars, name, op, s string, want ...string) {
	t.Helper()
	if got, e := Assign(v, name, op, s); !slices.Equal(got.L, made(want...).L) || e != api.OK {
		t.Errorf("Assign(%+v, %q, %q, %s) = %+v, %d, want %+v", v.L, name, op, quoted(s), got.L, int(e), made(want...).L)
	}
}

// isRefused is becomes for those that err.
func isRefused(t *testing.T, v Vars, name, op, s string, want api.Errno) {
	t.Helper()
	if got, e := Assign(v, name, op, s); len(got.L) != 0 || e != want {
		t.Errorf("Assign(%+v, %q, %q, %s) = %+v, %d, want %d", v.L, name, op, quoted(s), got.L, int(e), int(want))
	}
}

func TestAssign(t *testing.T) {
	v := made("b=$(a) x", "d:=$(a) y", "a:=1")
	with := func(l ...string) []string { return append([]string{"b=$(a) x", "d:=$(a) y", "a:=1"}, l...) }
	for _, c := range []struct {
		name, op, s, want string
	}{
		// one that there is not
		{"c", "=", "$(b) z", "c=$(b) z"}, {"c", ":=", "$(b) $$ z", "c:=1 x $ z"}, {"c", "?=", "$(b) z", "c=$(b) z"}, {"c", "+=", "$(b) z", "c=$(b) z"},
		{"c", "=", "", "c="}, {"c", ":=", "", "c:="}, {"c", "?=", "", "c="}, {"c", "+=", "", "c="},
		// one that is not simple
		{"b", "=", "$(d) z", "b=$(d) z"}, {"b", ":=", "$(b)$(d) z", "b:=1 x$(a) y z"}, {"b", "?=", "z", "b=$(a) x"}, {"b", "+=", "$(d) z", "b=$(a) x $(d) z"},
		{"b", "=", "", "b="}, {"b", ":=", "", "b:="}, {"b", "?=", "", "b=$(a) x"}, {"b", "+=", "", "b=$(a) x "}, {"b", "+=", " z ", "b=$(a) x  z "}, {"b", "+=", "$$", "b=$(a) x $$"},
		// one that is
		{"d", "=", "$(b) z", "d=$(b) z"}, {"d", ":=", "$(d)$(b) z", "d:=$(a) y1 x z"}, {"d", "?=", "$(b)", "d:=$(a) y"}, {"d", "+=", "$(b) $$ z", "d:=$(a) y 1 x $ z"},
		{"d", "=", "", "d="}, {"d", ":=", "", "d:="}, {"d", "?=", "", "d:=$(a) y"}, {"d", "+=", "", "d:=$(a) y "}, {"d", "+=", " z ", "d:=$(a) y  z "}, {"d", "+=", "$(d)", "d:=$(a) y $(a) y"},
		// what is not expanded may be of any form
		{"c", "=", "$", "c=$"}, {"c", "?=", "$(", "c=$("}, {"c", "+=", "$(if )", "c=$(if )"}, {"b", "=", "$(b", "b=$(b"}, {"b", "+=", "$", "b=$(a) x $"}, {"b", "?=", "$", "b=$(a) x"}, {"d", "=", "$", "d=$"}, {"d", "?=", "$", "d:=$(a) y"},
		{"c", "=", xs(5000), "c=" + xs(5000)}, {"c", "+=", xs(5000), "c=" + xs(5000)}, {"b", "+=", xs(5000), "b=$(a) x " + xs(5000)}, {"b", "?=", xs(5000), "b=$(a) x"}, {"d", "+=", xs(4000), "d:=$(a) y " + xs(4000)}, {"c", ":=", xs(4000), "c:=" + xs(4000)},
		{"b", "=", "$(b)", "b=$(b)"}, {"c", "=", "\xff\n\t ", "c=\xff\n\t "},
		// names
		{"A-z_0.9", "=", "z", "A-z_0.9=z"}, {xs(40), ":=", "z", xs(40) + ":=z"}, {"-", "+=", "z", "-=z"}, {"if", "?=", "z", "if=z"}, {"0", "=", "z", "0=z"}, {"dd", "+=", "z", "dd=z"},
	} {
		becomes(t, v, c.name, c.op, c.s, with(c.want)...)
	}
	becomes(t, made("e="), "e", "?=", "x", "e=")
	becomes(t, made("e:="), "e", "?=", "x", "e:=")
	becomes(t, made("e="), "e", "+=", "x", "e= x")
	becomes(t, made("e:="), "e", "+=", "x", "e:= x")
	for _, none := range []Vars{{nil}, {[]Var{}}} {
		becomes(t, none, "a", "=", "$(b)", "a=$(b)")
		becomes(t, none, "a", ":=", "x$(b)", "a:=x")
		becomes(t, none, "a", "?=", "$(b)", "a=$(b)")
		becomes(t, none, "a", "+=", "$(b)", "a=$(b)")
	}
}

func TestAssignRefuses(t *testing.T) {
	v := made("a=x", "s:=y", "r=$(r)", "a b=z", "l="+xs(4001))
	for _, name := range []string{"", " ", "a b", " a", "a ", "a/b", "a%", "$(a)", "a:", "=", "é", "a\n", xs(41), xs(1 << 16)} {
		for _, op := range []string{"=", ":=", "?=", "+=", "==", ""} {
			for _, s := range []string{"x", "", "$", "$(r)"} { // ahead of what the text is
				isRefused(t, v, name, op, s, api.ErrArg)
				isRefused(t, Vars{}, name, op, s, api.ErrArg)
			}
		}
	}
	for _, op := range []string{"", " ", ":", "?", "+", "==", "::=", ":=:", "=:", "=+", " =", "= ", "+= ", "-=", "!=", ":= ", "=\n", "\xff", xs(1 << 16)} {
		for _, name := range []string{"a", "s", "r", "none"} {
			for _, s := range []string{"x", "", "$", "$(r)"} {
				isRefused(t, v, name, op, s, api.ErrArg)
			}
		}
	}
	for s, want := range map[string]api.Errno{
		"$": api.ErrForm, "$(a": api.ErrForm, "x$(r)": api.ErrDeep, "$(if )": api.ErrArg, "$(word 0,a)": api.ErrArg, xs(4001): api.ErrLong, "$(l)": api.ErrLong, strings.Repeat("$()", 2001): api.ErrFuel, xs(4001) + "$": api.ErrForm,
	} {
		for _, name := range []string{"a", "s", "r", "none"} {
			isRefused(t, v, name, ":=", s, want)
		}
		isRefused(t, v, "s", "+=", s, want)
	}
	// of a simple one the text with more behind it may be longer, but is then no value any more
	longer, e := Assign(made("s:="+xs(4000)), "s", "+=", "")
	if e != api.OK {
		t.Errorf("a long text with nothing more: %d", int(e))
	}
	isWrong(t, longer, "$(s)", api.ErrLong)
}

func TestAssignmentsOneBehindTheOther(t *testing.T) {
	var v Vars
	for _, c := range []struct{ name, op, s string }{
		{"c", "?=", "cc"}, {"o", ":=", "$(c) -o"}, {"c", "=", "gcc"}, {"c", "?=", "tcc"}, {"o", "+=", "$(c)"}, {"f", "+=", "$(c)"}, {"f", "+=", "-g"}, {"c", "+=", "-O"}, {"g", ":=", "$(f)"}, {"c", ":=", "$(c) -W"}, {"c", "+=", "$(g)"},
	} {
		next, e := Assign(v, c.name, c.op, c.s)
		if e != api.OK {
			t.Fatal(c, e)
		}
		v = next
	}
	is(t, v, "$(c)|$(o)|$(f)|$(g)", "gcc -O -W gcc -O -g|cc -o gcc|gcc -O -W gcc -O -g -g|gcc -O -g")
}

// V7

// rich are variables of many kinds; some of them err.
func rich() Vars {
	return made("a=x$(b)", "b:=y z.c", "e=", "f=$(1)<$(a)>$(0)", "r=$(r)", "q=$", "n:=a", "x=b", "(=no", "z:=$(a)", ",:=c", "ax=,", "y z.c= :b")
}

func TestTextsWithoutDollarSignsAreThemselves(t *testing.T) {
	for _, s := range append(texts(5, "a", " ", "(", ")", "{", "}", ",", ":=%"), "if x,y", "\x00\xff\n", xs(4000)) {
		is(t, rich(), s, s)
	}
}

func TestTextsPutTogether(t *testing.T) {
	v := rich()
	told := map[string]string{}
	for _, s := range append(texts(4, "$", "(", ")", "a", "{b}", " ", ","), "$(if a,b)", "$(foreach i,$(b),<$(i)>)", "$(call f,$(a))", "${b:.c=$(e).o}", "$(sort $(b) $(a))", "$$(") {
		if x, e := Expand(v, s); e == api.OK {
			told[s] = x
		}
	}
	if len(told) < 500 {
		t.Fatal(len(told))
	}
	for a, x := range told {
		for b, y := range told {
			if got, e := Expand(v, a+b); got != x+y || e != api.OK {
				t.Fatalf("%q and %q are %q and %q, both together %q, %d", a, b, x, y, got, int(e))
			}
		}
	}
}

// V2 to V5, said in another way

// sayer expands as the chapter says it, word by word; what errs is told by a panic.
type sayer struct{ begun int }

func said(v map[string]Var, s string) (told string, e api.Errno) {
	defer func() {
		if r := recover(); r != nil {
			told, e = "", r.(api.Errno)
		}
	}()
	return new(sayer).expand(v, s, 0), api.OK
}

// closes is where what is opened ahead of s, and is closed by c, is closed.
func closes(s string, c byte) int {
	for i := 0; i < len(s); i++ {
		if s[i] == c {
			return i
		}
		if i+1 < len(s) && s[i] == '$' && (s[i+1] == '(' || s[i+1] == '{') {
			n := closes(s[i+2:], pair(s[i+1]))
			if n < 0 {
				return -1
			}
			i += 2 + n
		}
	}
	return -1
}

func pair(c byte) byte {
	if c == '(' {
		return ')'
	}
	return '}'
}

// split is what is ahead of a byte that is outside, and behind it.
func split(s string, c byte) (string, string, bool) {
	if i := closes(s, c); i >= 0 {
		return s[:i], s[i+1:], true
	}
	return s, "", false
}

func (x *sayer) begin(deep int) int {
	if deep >= 20 {
		panic(api.ErrDeep)
	}
	x.count()
	return deep + 1
}

func (x *sayer) count() {
	x.begun++
	if x.begun > 2000 {
		panic(api.ErrFuel)
	}
}

func checked(s string) string {
	if len(s) > 4000 {
		panic(api.ErrLong)
	}
	return s
}

func (x *sayer) expand(v map[string]Var, s string, deep int) string {
	told := ""
	for s != "" {
		if s[0] != '$' {
			told, s = told+s[:1], s[1:]
			continue
		}
		if len(s) == 1 {
			panic(api.ErrForm)
		}
		c := s[1]
		s = s[2:]
		switch c {
		case '$':
			told += "$"
		case '(', '{':
			n := closes(s, pair(c))
			if n < 0 {
				panic(api.ErrForm)
			}
			told += x.reference(v, s[:n], x.begin(deep))
			s = s[n+1:]
		default:
			told += x.value(v, string([]byte{c}), deep)
		}
	}
	return checked(told)
}

func (x *sayer) value(v map[string]Var, name string, deep int) string {
	y, is := v[name]
	if is && !y.Simple {
		return x.expand(v, y.Text, x.begin(deep))
	}
	return checked(y.Text)
}

func (x *sayer) reference(v map[string]Var, c string, deep int) string {
	i := strings.IndexFunc(c, func(r rune) bool { return r == ' ' || r == '\t' })
	if i > 0 {
		rest := strings.TrimLeft(c[i:], " \t")
		switch name := c[:i]; name {
		case "if":
			return x.chosen(v, rest, deep)
		case "foreach":
			return x.eachOne(v, rest, deep)
		case "call":
			return x.called(v, rest, deep)
		default:
			if many := call.Many(name); many > 0 {
				args := x.args(rest, many, many)
				for i := range args {
					args[i] = x.expand(v, args[i], deep)
				}
				told, e := call.Call(name, args)
				if e != api.OK {
					panic(e)
				}
				return told
			}
		}
	}
	name, rest, isColon := split(c, ':')
	if p, q, isSame := split(rest, '='); isColon && isSame {
		name, p, q = x.expand(v, name, deep), x.expand(v, p, deep), x.expand(v, q, deep)
		value := x.value(v, name, deep)
		if strings.Count(p, "%") != 1 {
			p, q = "%"+p, "%"+q
		}
		told, e := call.Call("patsubst", []string{p, q, value})
		if e != api.OK {
			panic(e)
		}
		return told
	}
	return x.value(v, x.expand(v, c, deep), deep)
}

func (x *sayer) args(s string, least, most int) []string {
	var l []string
	for {
		arg, rest, is := split(s, ',')
		if !is || len(l)+1 == most {
			l = append(l, s)
			break
		}
		l, s = append(l, arg), rest
	}
	if len(l) < least {
		panic(api.ErrArg)
	}
	return l
}

func (x *sayer) chosen(v map[string]Var, s string, deep int) string {
	l := append(x.args(s, 2, 3), "")
	if strings.Trim(x.expand(v, l[0], deep), " \t") != "" {
		return x.expand(v, l[1], deep)
	}
	return x.expand(v, l[2], deep)
}

func (x *sayer) eachOne(v map[string]Var, s string, deep int) string {
	l := x.args(s, 3, 3)
	name := strings.Trim(x.expand(v, l[0], deep), " \t")
	told, gap := "", ""
	for _, w := range strings.FieldsFunc(x.expand(v, l[1], deep), func(r rune) bool { return r == ' ' || r == '\t' }) {
		x.count()
		old, is := v[name]
		v[name] = Var{name, w, true}
		told += gap + x.expand(v, l[2], deep)
		gap = " "
		delete(v, name)
		if is {
			v[name] = old
		}
	}
	return checked(told)
}

func (x *sayer) called(v map[string]Var, s string, deep int) string {
	l := x.args(s, 1, 9)
	inner := map[string]Var{}
	for name, y := range v {
		inner[name] = y
	}
	for i := range l {
		l[i] = x.expand(v, l[i], deep)
	}
	l[0] = strings.Trim(l[0], " \t")
	for i := range l {
		inner[strconv.Itoa(i)] = Var{strconv.Itoa(i), l[i], true}
	}
	return x.expand(inner, v[l[0]].Text, deep)
}

// isAsSaid holds what a text expands to against what the chapter says.
func isAsSaid(t *testing.T, v Vars, s string) api.Errno {
	t.Helper()
	all := map[string]Var{}
	for _, x := range v.L {
		all[x.Name] = x
	}
	want, wantErr := said(all, s)
	if got, e := Expand(v, s); got != want || e != wantErr {
		t.Fatalf("Expand(%q) = %s, %d, want %s, %d", s, quoted(got), int(e), quoted(want), int(wantErr))
	}
	return wantErr
}

func TestExpandIsAsSaid(t *testing.T) {
	v := rich()
	for _, s := range texts(6, "$", "(", ")", "a", "{", "}", "$$") {
		isAsSaid(t, v, s)
	}
	for _, s := range texts(5, "$(", ")", "b", ":", "=", "%", ".c", " ", "$a") {
		isAsSaid(t, v, s)
		isAsSaid(t, v, "$(b:"+s+")")
	}
	for _, s := range texts(5, "$(", ")", "${", "}", ",", " ", "a", "$x", "$$") {
		for _, ahead := range []string{"$(if ", "$(foreach x,", "$(foreach ", "$(call f", "$(call ", "$(subst y,", "$(join"} {
			isAsSaid(t, v, ahead+s+")")
		}
	}
}

func TestManyTextsAreAsSaid(t *testing.T) {
	pieces := []string{"$(", "${", ")", "}", ",", ",", " ", "a", "b", "$(b)", "$(a)", "$n", "$x", "x", "$$", ":", "=", "%", ".c", "$(if ", "$(foreach x,", "$(foreach ", "$(call f,", "$(call ", "f", "$(sort ", "$(subst y,", "$(word 1,", "$(1)", ")", ")", "y z.c", "\t", "$(b:.c=", "$(e)", "$(r)", "if ", "x y"}
	v := rich()
	n, told := 1, map[api.Errno]int{}
	for range 200000 {
		s := ""
		open := 0
		for range n%13 + 1 {
			n = n * 48271 % (1<<31 - 1)
			piece := pieces[n/7%len(pieces)]
			open += strings.Count(piece, "$(") - strings.Count(piece, ")")
			s += piece
		}
		if n%5 > 0 { // most of them are closed, as far as that can be told so
			s += strings.Repeat(")", max(open, 0))
		}
		told[isAsSaid(t, v, s)]++
	}
	for _, e := range []api.Errno{api.OK, api.ErrForm, api.ErrDeep, api.ErrArg} {
		if told[e] < 100 {
			t.Error(told)
		}
	}
}

func TestCountsAreAsSaid(t *testing.T) {
	n, told := 1, map[api.Errno]int{}
	number := func(l ...int) int {
		n = n * 48271 % (1<<31 - 1)
		return l[n/7%len(l)]
	}
	one := func(l ...string) string {
		n = n * 48271 % (1<<31 - 1)
		return l[n/7%len(l)]
	}
	for range 3000 {
		v := made("e=", "s:=x", "l="+strings.Repeat(one("a ", "bb ", "c  "), number(1, 5, 30, 44)), "w:="+xs(number(7, 90, 1200)))
		s := one("$(s)", "$(w)", "$e", "$(l)")
		for range number(3, 8, 12, 17, 22, 27) {
			switch one("list", "list", "deep", "deep", "deep", "deep", "name", "more") {
			case "list":
				s = one("$(foreach i,$(l),", "$(foreach i,a b,$i", "$(foreach ") + s + one(")", ",$(l),x)", ",)")
			case "deep":
				s = one("$(if ,,", "$(strip ", "$(call none,", "$(call v", "$(words ", "$(if x,") + s + ")"
			case "name":
				v = Set(v, Var{Name: "v", Text: s, Simple: number(0, 1, 2) == 0})
				s = one("$v", "$(v)", "$(call v,x)", "$(v:x=$(s))", "$(v:%=%y)", "$(v:a=$(w))")
			case "more":
				s += one("$(w)", "$(s)$v", "$$", " x", "$(l)")
			}
		}
		told[isAsSaid(t, v, s)]++
	}
	for _, e := range []api.Errno{api.OK, api.ErrDeep, api.ErrFuel, api.ErrLong} {
		if told[e] < 20 {
			t.Error(told)
		}
	}
}

// P1 to P4

func TestVariablesHandedInAreLeftAlone(t *testing.T) {
	room := append(made("a=$(b)", "b:=x", "f=$(1)$(i)", "i=y").L, Var{"behind", "1", true}, Var{"more", "2", false}, Var{"z", "3", false})
	want := slices.Clone(room)
	for n := range len(room) - 2 {
		v := Vars{room[:n]}
		held := func(what string, got Vars) {
			t.Helper()
			if !slices.Equal(room, want) {
				t.Fatalf("%s: the variables are %+v now", what, room)
			}
			for i := range got.L[:cap(got.L)] { // also what lies behind its length
				got.L[:cap(got.L)][i] = Var{"changed", "changed", true}
			}
			if !slices.Equal(room, want) {
				t.Fatalf("%s: what is answered shares its memory", what)
			}
		}
		for _, name := range []string{"", "a", "b", "c", "f", "i", "zz", "behind"} {
			held("Get", Vars{})
			held("Set", Set(v, Var{name, "new", true}))
			if x, is := Get(v, name); is {
				held("Set of the same", Set(v, x))
			}
			for _, op := range []string{"=", ":=", "?=", "+=", "x"} {
				got, _ := Assign(v, name, op, "$(a)$(foreach b,1 2,$(a))")
				held("Assign", got)
			}
		}
		for _, s := range []string{"$(foreach a,x y,$(a))", "$(foreach b,x y,$(a))", "$(foreach zz,x,$(a))", "$(foreach ,x,$())", "$(call f,$(a))", "$(call a,x)", "$(a:x=y)", "$(foreach i,x,$(call f,$(a)))", "$(call f,$(r))", "$(foreach a,x,$)"} {
			Expand(v, s)
			held("Expand", Vars{})
		}
	}
	if got, e := Expand(Vars{room[:2]}, "$(behind)$(more)$(f)$(a)"); got != "x" || e != api.OK {
		t.Errorf("what is behind the length is told: %q, %d", got, int(e))
	}
}

func TestAnswersHangOnWhatIsHandedIn(t *testing.T) {
	v := rich()
	for range 3 {
		is(t, v, "$(foreach i,$(b) $(b),$(i))$(i)$(call f,1)$(1)", "y z.c y z.c1<xy z.c>f")
		isWrong(t, v, "$(foreach i,$(b),$(r))", api.ErrDeep)
		isWrong(t, v, strings.Repeat("$(b)", 2001), api.ErrFuel)
		is(t, v, strings.Repeat("$(e)", 1000), "")
	}
}

func TestAnythingEnds(t *testing.T) {
	const many = 1 << 14
	pieces := []string{"", "$", "$(", "${", "$$", ")", "}", "$()", "$(a)", "$x", "$(if ", "$(foreach i,a b,", "$(call f,", "$(b:", "$(sort ", ",", ":", "=", "%", " ", "\x00\xff", "$(r)"}
	for _, v := range []Vars{{}, rich(), {[]Var{{}, {"b", "$(a)", false}, {"a", "$(b)$(", false}, {}, {"f", "$(call f,$(f))", true}}}} {
		for _, a := range pieces {
			for _, b := range pieces {
				for _, s := range []string{strings.Repeat(a, many) + b, strings.Repeat(a+b, many/2), a + strings.Repeat(b, many), strings.Repeat(a, many/4) + strings.Repeat(b, many/4) + strings.Repeat(")", many)} {
					got, e := Expand(v, s)
					if len(got) > 4000 || e != api.OK && got != "" {
						t.Fatalf("Expand(%s) = %s, %d", quoted(s), quoted(got), int(e))
					}
				}
			}
		}
	}
}

func TestManyVariables(t *testing.T) {
	var v Vars
	for i := range 1 << 14 {
		v.L = append(v.L, Var{fmt.Sprintf("v%06d", i), "x", i%2 == 0})
	}
	is(t, v, "$(v000000)$(v016383)$(v016384)$(v008191:x=y)", "xxy")
	is(t, v, "$(foreach v000001,"+strings.Repeat("a ", 500)+",$(v000001)$(v016382))", strings.Repeat("ax ", 499)+"ax")
	if got := Set(v, Var{"v000000.", "new", true}); len(got.L) != len(v.L)+1 || got.L[1].Name != "v000000." {
		t.Error(len(got.L), got.L[1])
	}
}
