// Package text: words, paths, quoted words: layer 1: see shared/doc/01-text.md.
package text

import (
	"iter"
	"strings"

	"cooperage/api"
)

const (
	blanks      = " \t"
	maxDigits   = 9
	hexDigits   = "0123456789ABCDEF"
	quotedEmpty = "%"
)

// Lines and Words cut a text, Join puts words together, Trim takes blanks off its ends.
func Lines(s string) []string {
	l := gather(between(s, isNewline))
	last := len(l) - 1
	if l[last] == "" { // a byte 10 ends a line, it does not begin one
		return l[:last]
	}
	return l
}

func Words(s string) []string { return gather(words(s)) }

func Join(l []string) string { return strings.Join(l, " ") }

func Trim(s string) string { return strings.Trim(s, blanks) }

// Number and Path tell whether a text is one.
func Number(s string) (int, bool) {
	if s == "" || len(s) > maxDigits || s[0] == '0' && len(s) > 1 {
		return 0, false
	}
	n := 0
	for i := range len(s) {
		if !isDigit(s[i]) {
			return 0, false
		}
		n = n*10 + int(s[i]-'0')
	}
	return n, true
}

func Path(s string) bool {
	if len(s) > api.MaxPath || !allPlain(s) {
		return false
	}
	parts := 0
	for part := range between(s, isSlash) {
		if part == "" || part == "." || part == ".." {
			return false
		}
		parts++
	}
	return parts <= api.MaxParts
}

// Quote makes any text a word, Unquote reads it.
func Quote(s string) string {
	if s == "" {
		return quotedEmpty
	}
	var b strings.Builder
	for i := range len(s) {
		c := s[i]
		if isPlain(c) {
			b.WriteByte(c)
			continue
		}
		b.WriteByte('%')
		b.WriteByte(hexDigits[c>>4])
		b.WriteByte(hexDigits[c&15])
	}
	return b.String()
}

func Unquote(s string) (string, api.Errno) {
	if s == quotedEmpty {
		return "", api.OK
	}
	if s == "" { // a quoted text is a word, so it has a byte
		return "", api.ErrForm
	}
	var b strings.Builder
	for i := 0; i < len(s); {
		c, size := unquoteFirst(s[i:])
		if size == 0 {
			return "", api.ErrForm
		}
		b.WriteByte(c)
		i += size
	}
	return b.String(), api.OK
}

// unquoteFirst needs a text that is not empty. A size of 0 says that Quote
// tells nothing that goes on so.
func unquoteFirst(s string) (byte, int) {
	if isPlain(s[0]) {
		return s[0], 1
	}
	if s[0] != '%' || len(s) < 3 {
		return 0, 0
	}
	high, low := strings.IndexByte(hexDigits, s[1]), strings.IndexByte(hexDigits, s[2])
	if high < 0 || low < 0 {
		return 0, 0
	}
	c := byte(high<<4 | low)
	if isPlain(c) { // each text has one quoted form alone, and there a plain byte is itself
		return 0, 0
	}
	return c, 3
}

func words(s string) iter.Seq[string] {
	return func(yield func(string) bool) {
		for piece := range between(s, isBlank) {
			if piece != "" && !yield(piece) {
				return
			}
		}
	}
}

// between tells pieces without a byte too, since lines may be empty and parts
// of a path must not: there is always one piece more than there are cuts.
func between(s string, isCut func(byte) bool) iter.Seq[string] {
	return func(yield func(string) bool) {
		start := 0
		for i := range len(s) {
			if !isCut(s[i]) {
				continue
			}
			if !yield(s[start:i]) {
				return
			}
			start = i + 1
		}
		yield(s[start:])
	}
}

func gather[T any](told iter.Seq[T]) []T {
	var l []T
	for x := range told {
		l = append(l, x)
	}
	return l
}

func allPlain(s string) bool {
	for i := range len(s) {
		if !isPlain(s[i]) {
			return false
		}
	}
	return true
}

func isPlain(c byte) bool {
	return isLetter(c) || isDigit(c) || c == '_' || c == '-' || c == '.' || c == '/' || c == '+'
}

func isLetter(c byte) bool { return 'A' <= c && c <= 'Z' || 'a' <= c && c <= 'z' }

func isDigit(c byte) bool { return '0' <= c && c <= '9' }

func isBlank(c byte) bool { return strings.IndexByte(blanks, c) >= 0 }

func isNewline(c byte) bool { return c == '\n' }

func isSlash(c byte) bool { return c == '/' }
