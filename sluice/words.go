package sluice

import "strings"

const (
	maxName = 12
	signs   = ":;,()[]+-*/=<"
)

// split cuts a text into its words, numbers and signs. Which of the words are
// names, and which are known, is left to the parser: no rule of the grammar
// takes any other.
func split(text string) ([]string, bool) {
	var parts []string
	for text != "" {
		n := firstLength(text)
		if n == 0 {
			return nil, false
		}
		if !isBlank(text[0]) {
			parts = append(parts, text[:n])
		}
		text = text[n:]
	}
	return parts, true
}

// firstLength is how many bytes the first part of a text has; 0, if no part
// begins so.
func firstLength(text string) int {
	c := text[0]
	switch {
	case isBlank(c):
		return 1
	case isLetter(c):
		return countFirst(text, isOfWord)
	case isDigit(c):
		return countFirst(text, isDigit)
	case strings.HasPrefix(text, ":="):
		return 2
	case strings.IndexByte(signs, c) >= 0:
		return 1
	}
	return 0
}

func countFirst(text string, belongs func(byte) bool) int {
	n := 0
	for n < len(text) && belongs(text[n]) {
		n++
	}
	return n
}

func isBlank(c byte) bool  { return c == ' ' || c == '\n' }
func isDigit(c byte) bool  { return '0' <= c && c <= '9' }
func isLetter(c byte) bool { return 'a' <= c && c <= 'z' || 'A' <= c && c <= 'Z' }
func isOfWord(c byte) bool { return isLetter(c) || isDigit(c) || c == '_' }

func isNumber(part string) bool { return part != "" && isDigit(part[0]) }

func isName(part string) bool {
	return part != "" && isLetter(part[0]) && len(part) <= maxName && part == strings.ToLower(part)
}
