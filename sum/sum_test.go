package sum

import (
	"fmt"
	"hash/adler32"
	"math"
	"math/big"
	"strings"
	"testing"
)

// every is all 256 bytes, each once.
func every() string {
	b := make([]byte, 256)
	for i := range b {
		b[i] = byte(i)
	}
	return string(b)
}

// texts tells all texts of at most size bytes of an alphabet.
func texts(alphabet string, size int) []string {
	all := []string{""}
	start := 0
	for range size {
		end := len(all)
		for _, s := range all[start:end] {
			for i := range len(alphabet) {
				all = append(all, s+alphabet[i:i+1])
			}
		}
		start = end
	}
	return all
}

// starts are numbers to go on from: sums, and numbers that no text has as its sum.
func starts() []uint32 {
	var all []uint32
	halves := []uint32{0, 1, 2, 254, 255, 256, 32767, 32768, 65265, 65266, 65519, 65520, 65521, 65522, 65534, 65535}
	for _, b := range halves {
		for _, a := range halves {
			all = append(all, b<<16|a)
		}
	}
	return all
}

// closed is S1 without its steps, in numbers without bounds: A grows by the
// sum of the bytes, B by the first A and each byte once for it and for every
// byte behind it.
func closed(n uint32, s string) uint32 {
	a, b := big.NewInt(int64(n%65536)), big.NewInt(int64(n/65536))
	b.Add(b, new(big.Int).Mul(a, big.NewInt(int64(len(s)))))
	for i := range len(s) {
		a.Add(a, big.NewInt(int64(s[i])))
		b.Add(b, big.NewInt(int64(s[i])*int64(len(s)-i)))
	}
	modulus := big.NewInt(65521)
	return uint32(b.Mod(b, modulus).Uint64()*65536 + a.Mod(a, modulus).Uint64())
}

// S1: Add

func TestAddOfNoByteReducesBothHalves(t *testing.T) {
	for _, c := range []struct{ n, want uint32 }{
		{0, 0},
		{1, 1},
		{0x00010000, 0x00010000},
		{65520, 65520},
		{65521, 0},
		{65522, 1},
		{65535, 14},
		{65520 << 16, 65520 << 16},
		{65521 << 16, 0},
		{65522 << 16, 1 << 16},
		{65535 << 16, 14 << 16},
		{65520<<16 | 65520, 65520<<16 | 65520},
		{65521<<16 | 65521, 0},
		{65520<<16 | 65521, 65520 << 16},
		{65521<<16 | 65520, 65520},
		{3<<16 | 65535, 3<<16 | 14},
		{65535<<16 | 3, 14<<16 | 3},
		{math.MaxUint32, 14<<16 | 14},
	} {
		if got := Add(c.n, ""); got != c.want {
			t.Errorf("Add(%#x, nothing) = %#x, want %#x", c.n, got, c.want)
		}
	}
}

func TestAddOfOneByte(t *testing.T) {
	for _, c := range []struct {
		n    uint32
		s    string
		want uint32
	}{
		{0, "\x00", 0},
		{0, "\x01", 1<<16 | 1},
		{0, "\xff", 255<<16 | 255},
		{1, "\x00", 1<<16 | 1},
		{1, "\xff", 256<<16 | 256},
		{5, "\x00", 5<<16 | 5},
		{7 << 16, "\x00", 7 << 16},
		{7<<16 | 5, "\x02", 14<<16 | 7},
		{65520, "\x00", 65520<<16 | 65520},
		{65520, "\x01", 0},
		{65520, "\xff", 254<<16 | 254},
		{65521, "\xff", 255<<16 | 255},
		{65535, "\x01", 15<<16 | 15},
		{65520 << 16, "\x01", 1},
		{65520 << 16, "\xff", 254<<16 | 255},
		{65520<<16 | 1, "\x00", 1},
		{65520<<16 | 65520, "\x00", 65519<<16 | 65520},
		{65520<<16 | 65520, "\x01", 65520 << 16},
		{65520<<16 | 65265, "\xff", 65519<<16 | 65520},
		{65520<<16 | 65266, "\xff", 65520 << 16},
		{math.MaxUint32, "\x00", 28<<16 | 14},
		{math.MaxUint32, "\xff", 283<<16 | 269},
	} {
		if got := Add(c.n, c.s); got != c.want {
			t.Errorf("Add(%#x, %q) = %#x, want %#x", c.n, c.s, got, c.want)
		}
	}
}

func TestAddFromAnyNumber(t *testing.T) {
	all := append(texts("\x00\x01a\xff", 3), every(), strings.Repeat("\xff", 700), strings.Repeat("\x00", 700))
	for _, n := range starts() {
		for _, s := range all {
			if got, want := Add(n, s), closed(n, s); got != want {
				t.Errorf("Add(%#x, %d bytes) = %#x, want %#x", n, len(s), got, want)
			}
		}
	}
}

func TestHalvesStayBelowTheModulus(t *testing.T) {
	for _, n := range starts() {
		for size := range 600 {
			got := Add(n, strings.Repeat("\xff", size))
			if got%65536 >= 65521 || got/65536 >= 65521 {
				t.Errorf("Add(%#x, %d bytes of 255) = %#x", n, size, got)
			}
		}
	}
}

// S1: Of

func TestOf(t *testing.T) {
	for _, c := range []struct {
		s    string
		want uint32
	}{
		{"", 1},
		{"\x00", 1<<16 | 1},
		{"\xff", 256<<16 | 256},
		{"a", 0x00620062},
		{"abc", 0x024d0127},
		{"Wikipedia", 0x11e60398},
		{"é", (1+0xc3+1+0xc3+0xa9)<<16 | (1 + 0xc3 + 0xa9)},
	} {
		if got := Of(c.s); got != c.want {
			t.Errorf("Of(%q) = %#x, want %#x", c.s, got, c.want)
		}
	}
}

func TestOfEachByte(t *testing.T) {
	for i := range 256 {
		want := uint32(1+i)<<16 | uint32(1+i)
		if got := Of(string([]byte{byte(i)})); got != want {
			t.Errorf("Of the byte %d = %#x, want %#x", i, got, want)
		}
	}
}

func TestOfIsAddToOne(t *testing.T) {
	for _, s := range append(texts("\x00a\xff", 5), every()) {
		if got, want := Of(s), Add(1, s); got != want {
			t.Errorf("Of(%q) = %#x, want %#x", s, got, want)
		}
	}
}

func TestOfHangsOnTheOrder(t *testing.T) {
	if Of("ab") == Of("ba") {
		t.Errorf("both are %#x", Of("ab"))
	}
}

// Of bytes of 255, A goes round at the 257th and B ahead of that; both go
// round many times in the longer ones.
func TestOfLongTexts(t *testing.T) {
	for _, piece := range []string{"\x00", "\x01", "a", "\xff", "\x00\xff", "Wikipedia", every()} {
		for _, times := range []int{21, 22, 23, 255, 256, 257, 258, 5000, 5551, 5552, 5553, 65520, 65521, 65522} {
			s := strings.Repeat(piece, times)
			if got, want := Of(s), adler32.Checksum([]byte(s)); got != want {
				t.Errorf("Of(%d times %d bytes) = %#x, want %#x", times, len(piece), got, want)
			}
		}
	}
}

func TestOfBytesOf255AtEveryLength(t *testing.T) {
	s := strings.Repeat("\xff", 2000)
	a, b := 1, 0
	for size := range len(s) + 1 {
		if got, want := Of(s[:size]), uint32(b%65521*65536+a%65521); got != want {
			t.Errorf("Of(%d bytes of 255) = %#x, want %#x", size, got, want)
		}
		a += 255
		b += a
	}
}

func TestOfTheGreatestFile(t *testing.T) {
	s := strings.Repeat("\xff", 1<<24)
	if got, want := Of(s), adler32.Checksum([]byte(s)); got != want {
		t.Errorf("%#x, want %#x", got, want)
	}
}

// S1: Hex

func TestHex(t *testing.T) {
	for _, c := range []struct {
		n    uint32
		want string
	}{
		{0, "00000000"},
		{1, "00000001"},
		{9, "00000009"},
		{10, "0000000a"},
		{15, "0000000f"},
		{16, "00000010"},
		{0x1a, "0000001a"},
		{65535, "0000ffff"},
		{65536, "00010000"},
		{0x01234567, "01234567"},
		{0x89abcdef, "89abcdef"},
		{0x10000000, "10000000"},
		{0x7fffffff, "7fffffff"},
		{0x80000000, "80000000"},
		{0xfffffff0, "fffffff0"},
		{math.MaxUint32, "ffffffff"},
		{Of("Wikipedia"), "11e60398"},
		{Of(""), "00000001"},
	} {
		if got := Hex(c.n); got != c.want {
			t.Errorf("Hex(%d) = %q, want %q", c.n, got, c.want)
		}
	}
}

func TestHexOfEachDigitAtEachPlace(t *testing.T) {
	for place := range 8 {
		for digit := range uint32(16) {
			for _, n := range []uint32{digit << (4 * place), ^(digit << (4 * place))} {
				if got, want := Hex(n), fmt.Sprintf("%08x", n); got != want {
					t.Errorf("Hex(%d) = %q, want %q", n, got, want)
				}
			}
		}
	}
}

// S2

func TestTextsCutAtEveryPlace(t *testing.T) {
	long := strings.Repeat("\xff", 600)
	for _, s := range append(texts("\x00a\xff", 4), "Wikipedia", every(), long) {
		for _, n := range []uint32{0, 1, 65520, 65521, 65521 << 16, 65520<<16 | 65520, 65535<<16 | 1, math.MaxUint32} {
			whole := Add(n, s)
			for cut := range len(s) + 1 {
				if got := Add(Add(n, s[:cut]), s[cut:]); got != whole {
					t.Errorf("from %#x, %d bytes cut at %d: %#x, want %#x", n, len(s), cut, got, whole)
				}
			}
		}
	}
}

func TestByteByByte(t *testing.T) {
	s := strings.Repeat(every(), 20)
	n := Of("")
	for i := range len(s) {
		n = Add(n, s[i:i+1])
	}
	if n != Of(s) {
		t.Errorf("%#x, want %#x", n, Of(s))
	}
}

func TestAnotherByteIsAnotherSum(t *testing.T) {
	for _, s := range []string{"a", "Wikipedia", "\x00\x00\x00", "\xff\xff", strings.Repeat("\xff", 300)} {
		for _, n := range []uint32{0, 1, 65520, math.MaxUint32} {
			for place := range len(s) {
				checkOtherBytes(t, n, s, place)
			}
		}
	}
}

// checkOtherBytes puts each byte in the one place: the sums are 256 different ones.
func checkOtherBytes(t *testing.T, n uint32, s string, place int) {
	t.Helper()
	by := map[uint32]int{}
	for i := range 256 {
		got := Add(n, s[:place]+string([]byte{byte(i)})+s[place+1:])
		if other, known := by[got]; known {
			t.Errorf("from %#x, %d bytes: %d and %d at %d both have %#x", n, len(s), other, i, place, got)
		}
		by[got] = i
	}
}

// P4

func TestTheSameAnswerEachTime(t *testing.T) {
	first := Of("Wikipedia")
	Add(math.MaxUint32, every())
	Hex(math.MaxUint32)
	if again := Of("Wikipedia"); again != first {
		t.Errorf("%#x, then %#x", first, again)
	}
}
