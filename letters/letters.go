// Package letters holds what all layers know of letters and of texts. Letters are those of ASCII alone: others stay as they are.
package letters

import "unicode/utf8"

// IsLetter says whether c is a letter, a great or a small one.
func IsLetter(c rune) bool {
	return c >= 'A' && c <= 'Z' || c >= 'a' && c <= 'z'
}

// IsDigit says whether c is a decimal digit.
func IsDigit(c rune) bool {
	return c >= '0' && c <= '9'
}

// IsText says whether s is a text, of whatever length.
func IsText(s string) bool {
	for _, c := range s {
		if c < ' ' || c == 0x7f {
			return false
		}
	}
	return utf8.ValidString(s)
}

// Great has great letters in place of small ones.
func Great(s string) string {
	b := []byte(s)
	for i, c := range b {
		if c >= 'a' && c <= 'z' {
			b[i] = c - 'a' + 'A'
		}
	}
	return string(b)
}

// Small has small letters in place of great ones.
func Small(s string) string {
	b := []byte(s)
	for i, c := range b {
		b[i] = SmallByte(c)
	}
	return string(b)
}

// Alike says whether two texts are the same, but for great and small letters.
func Alike(a string, b string) bool {
	if len(a) != len(b) {
		return false
	}
	for i := range len(a) {
		if SmallByte(a[i]) != SmallByte(b[i]) {
			return false
		}
	}
	return true
}

// SmallByte is the small letter of a great one, and any other byte itself.
func SmallByte(c byte) byte {
	if c >= 'A' && c <= 'Z' {
		return c - 'A' + 'a'
	}
	return c
}
