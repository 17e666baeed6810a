// Package text is layer 1: files as bytes, their lines, their edits.
package text

import (
	"strings"
	"unicode/utf8"

	"plinth/api"
)

// Check tells whether b is a text, and where it stops being UTF-8.
func Check(b string) (int, api.Errno) {
	if len(b) > api.MaxFile {
		return 0, api.ErrLong
	}
	for at := 0; at < len(b); {
		r, size := utf8.DecodeRuneInString(b[at:])
		if r == utf8.RuneError && size <= 1 {
			return at, api.ErrUtf8
		}
		at += size
	}
	return 0, api.OK
}

// Lines tells the bytes at which the lines of b begin.
func Lines(b string) []int {
	starts := []int{0}
	for i := range len(b) {
		if b[i] == '\n' {
			starts = append(starts, i+1)
		}
	}
	return starts
}

// Where tells the line and the column of the byte at.
func Where(b string, at int) (int, int, api.Errno) {
	if at < 0 || at > len(b) {
		return 0, 0, api.ErrRange
	}
	ahead := b[:at]
	line := strings.Count(ahead, "\n") + 1
	return line, at - strings.LastIndexByte(ahead, '\n'), api.OK
}

// At tells the byte that stands at a line and a column.
func At(b string, line, column int) (int, api.Errno) {
	starts := Lines(b)
	if line < 1 || line > len(starts) {
		return 0, api.ErrRange
	}
	start, last := starts[line-1], len(b)
	if line < len(starts) {
		last = starts[line] - 1
	}
	if column < 1 || column-1 > last-start {
		return 0, api.ErrRange
	}
	return start + column - 1, api.OK
}

// Apply does the edits, each on what the one ahead has made.
func Apply(b string, edits ...api.Edit) (string, api.Errno) {
	for _, e := range edits {
		if e.From < 0 || e.From > e.To || e.To > len(b) {
			return "", api.ErrRange
		}
		if len(b)-(e.To-e.From)+len(e.Text) > api.MaxFile {
			return "", api.ErrLong
		}
		b = b[:e.From] + e.Text + b[e.To:]
	}
	return b, api.OK
}
