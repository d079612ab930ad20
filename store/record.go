package store

import (
	"iter"
	"strconv"
	"strings"
	"unicode/utf8"

	"tabula/api"
	"tabula/pack"
)

// What payloads begin with, by what they are of.
const (
	ofBook  = "B"
	ofEntry = "E"
)

// sumDigits is how many digits a record's sum has, with a blank behind them.
const sumDigits = 8

// otherwise are the bytes that records have in place of others, behind a `\`: those of a payload must neither end a record nor look as what was never written.
func otherwise() map[byte]byte {
	return map[byte]byte{0: '0', '\n': 'n', '\\': '\\'}
}

// record is that of a payload.
func record(payload string) string {
	sum := strconv.FormatInt(int64(pack.Sum(payload)), 16)
	line := []byte(strings.Repeat("0", sumDigits-len(sum)) + sum + " ")
	places := otherwise()
	for _, b := range []byte(payload) {
		c, found := places[b]
		if found {
			line = append(line, '\\')
			b = c
		}
		line = append(line, b)
	}
	return string(append(line, '\n'))
}

// payload is that of a record; false, if a line is no record.
func payload(line string) (string, bool) {
	if len(line) <= sumDigits+1 {
		return "", false
	}
	back := map[byte]byte{}
	for b, c := range otherwise() {
		back[c] = b
	}
	var bytes []byte
	isBehind := false
	for _, b := range []byte(line[sumDigits+1 : len(line)-1]) {
		if b == '\\' && !isBehind {
			isBehind = true
			continue
		}
		if isBehind {
			b, isBehind = back[b], false
		}
		bytes = append(bytes, b)
	}
	return string(bytes), record(string(bytes)) == line
}

// lines goes through what may be records, up to a byte that was never written.
func lines(s string) iter.Seq[string] {
	return func(yield func(string) bool) {
		for {
			end := strings.IndexAny(s, "\x00\n")
			if end < 0 || s[end] == 0 || !yield(s[:end+1]) {
				return
			}
			s = s[end+1:]
		}
	}
}

// take takes what a record tells; false, if that is not what the next record is to be.
func (s *Store) take(line string) bool {
	text, isRecord := payload(line)
	if !isRecord {
		return false
	}
	switch kind, size := utf8.DecodeRuneInString(text); kind {
	case 'B':
		b, _, err := pack.Decode(text[size:])
		if err != api.OK || s.isStarted {
			return false
		}
		s.isStarted, s.book = true, b
		return true
	case 'E':
		e, ok := read(text[size:])
		if !ok || !s.isStarted {
			return false
		}
		s.entries = append(s.entries, e)
		return true
	}
	return false
}
