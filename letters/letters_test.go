package letters_test

import (
	"strings"
	"testing"

	"tabula/letters"
)

// Letters and digits are those of ASCII, and texts have no byte below 32, and no 127.
func TestSigns(t *testing.T) {
	const great, small = "ABCDEFGHIJKLMNOPQRSTUVWXYZ", "abcdefghijklmnopqrstuvwxyz"
	for c := rune(0); c < 0x3000; c++ {
		if letters.IsLetter(c) != strings.ContainsRune(great+small, c) {
			t.Errorf("IsLetter(%U) is %v", c, letters.IsLetter(c))
		}
		if letters.IsDigit(c) != strings.ContainsRune("0123456789", c) {
			t.Errorf("IsDigit(%U) is %v", c, letters.IsDigit(c))
		}
		s := "a" + string(c)
		if letters.IsText(s) != (c >= 32 && c != 127) {
			t.Errorf("IsText(%q) is %v", s, letters.IsText(s))
		}
		if !letters.IsLetter(c) && (letters.Great(s) != "A"+s[1:] || letters.Small(s) != s) {
			t.Errorf("of %q Great is %q, Small %q", s, letters.Great(s), letters.Small(s))
		}
	}
	if letters.Great(small) != great || letters.Small(great) != small || letters.Great(great) != great || letters.Small(small) != small {
		t.Error("Great and Small of all letters")
	}
}

// What is no right UTF-8 is no text, and stays as it is in other letters.
func TestBytes(t *testing.T) {
	for _, s := range []string{"\xff", "a\xc3", "\xed\xa0\x80", "\xc0\xaf", "\xf4\x90\x80\x80", "\x80"} {
		if letters.IsText(s) || letters.Great(s) != strings.ReplaceAll(s, "a", "A") || letters.Small(s) != s {
			t.Errorf("%q is a text, or has become another one", s)
		}
	}
	for _, s := range []string{"", " ", "\u0080", "\U0010ffff", "日本", strings.Repeat("x", 100000)} {
		if !letters.IsText(s) {
			t.Errorf("%q is no text", s)
		}
	}
}

// Texts are alike, if small letters in place of great ones make them the same.
func TestAlike(t *testing.T) {
	some := []string{"", "a", "A", "b", "ab", "aB", "AB", "abc", "é", "É", "@", "`", "[", "{", "Z", "z", "\xff", "k", "\u212a", " ", "a "}
	for _, a := range some {
		for _, b := range some {
			if letters.Alike(a, b) != (letters.Small(a) == letters.Small(b)) {
				t.Errorf("Alike(%q, %q) is %v", a, b, letters.Alike(a, b))
			}
		}
	}
}
