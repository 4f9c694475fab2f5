// Package lines parts texts into lines and words, and reads and writes numbers, as rule R9 of shared/DOC.md has it for the texts of all layers.
package lines

import (
	"iter"
	"strconv"
	"strings"
)

// Saying yields the lines of a text that say something: the number of each, and its words.
func Saying(text string) iter.Seq2[int, []string] {
	return func(yield func(int, []string) bool) {
		for i, line := range strings.Split(text, "\n") {
			words := wordsOf(line)
			if len(words) > 0 && !yield(i+1, words) {
				return
			}
		}
	}
}

// Count returns how many lines a text has, those that say nothing too.
func Count(text string) int {
	ends := strings.Count(text, "\n")
	if text == "" || strings.HasSuffix(text, "\n") {
		return ends
	}
	return ends + 1
}

// wordsOf returns the words of a line; a line that says nothing has none.
func wordsOf(line string) []string {
	if strings.HasPrefix(line, "#") {
		return nil
	}
	// No other white space parts words, so that strings.Fields would take too much.
	return strings.FieldsFunc(line, func(r rune) bool { return r == ' ' })
}

// Number reads a number of at most so many digits (and 18, which an int surely holds).
// It takes decimal digits alone: strconv.Atoi would take signs and leading zeros too.
func Number(word string, digits int) (int, bool) {
	if word == "" || len(word) > min(digits, 18) || len(word) > 1 && word[0] == '0' {
		return 0, false
	}
	n := 0
	for _, c := range []byte(word) {
		if c < '0' || c > '9' {
			return 0, false
		}
		n = 10*n + int(c-'0')
	}
	return n, true
}

// Numbers reads words that are all numbers of at most so many digits; false unless they are, and are so many.
func Numbers(words []string, many, digits int) ([]int, bool) {
	if len(words) != many {
		return nil, false
	}
	numbers := make([]int, 0, many)
	for _, word := range words {
		n, ok := Number(word, digits)
		if !ok {
			return nil, false
		}
		numbers = append(numbers, n)
	}
	return numbers, true
}

// Write adds a line of a word and numbers to a text.
func Write(text *strings.Builder, word string, numbers ...int) {
	text.WriteString(word)
	for _, n := range numbers {
		text.WriteByte(' ')
		text.WriteString(strconv.Itoa(n))
	}
	text.WriteByte('\n')
}
