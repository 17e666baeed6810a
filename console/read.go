package console

import (
	"slices"
	"strconv"
	"strings"

	"plinth/api"
	"plinth/scan"
)

// command is a line of a script that does something, and, of put, the bytes behind it.
type command struct {
	word, name     string
	function, text string
	first, second  int
}

// read reads all lines. It tells the number of the first one that is wrong; 0, if none is.
func read(lines []string) ([]command, int) {
	var l []command
	for i := 0; i < len(lines); i++ {
		if lines[i] == "" || lines[i][0] == '#' {
			continue
		}
		one, right := line(lines[i])
		if !right {
			return nil, i + 1
		}
		if one.word == "put" {
			count := slices.Index(lines[i+1:], ".")
			if count < 0 {
				return nil, i + 1
			}
			one.text = ended(lines[i+1 : i+1+count])
			i += count + 1
		}
		l = append(l, one)
	}
	return l, 0
}

// ended tells lines, each with its new line.
func ended(lines []string) string {
	var b strings.Builder
	for _, s := range lines {
		b.WriteString(s)
		b.WriteString("\n")
	}
	return b.String()
}

// line reads a command, and tells whether it is one.
func line(s string) (command, bool) {
	words := strings.Split(s, " ")
	one := command{word: words[0]}
	if one.word == "edit" {
		words = strings.SplitN(s, " ", 5)
	}
	if len(words) != length(one.word) || slices.Contains(words, "") {
		return command{}, false
	}
	if len(words) > 1 {
		one.name = words[1]
	}
	right := true
	switch one.word {
	case "edit":
		var from, to, text bool
		one.first, from = number(words[2])
		one.second, to = number(words[3])
		one.text, text = quoted(words[4])
		right = from && to && text
	case "run":
		one.function = words[2]
		one.first, right = number(words[3])
	}
	return one, right
}

// length tells how many words a command has; 0, if there is none of that word.
func length(word string) int {
	switch word {
	case "check", "runs":
		return 1
	case "put", "drop", "ran":
		return 2
	case "run":
		return 4
	case "edit":
		return 5
	}
	return 0
}

// number reads one to nine digits, the first not 0 but in 0 itself.
func number(s string) (int, bool) {
	if len(s) > 9 || len(s) > 1 && s[0] == '0' || strings.Trim(s, "0123456789") != "" {
		return 0, false
	}
	n, err := strconv.Atoi(s)
	return n, err == nil
}

// quoted reads a string that stands alone.
func quoted(s string) (string, bool) {
	tokens, _ := scan.Cut(s)
	if len(tokens) != 2 || tokens[0].Kind != api.TString || tokens[0].At != 0 || tokens[0].End != len(s) {
		return "", false
	}
	return tokens[0].Text, true
}
