// Package lines parts texts into lines and words, and reads and writes numbers, as rule R9 of shared/DOC.md has it for the texts of all layers.
package lines

import (
	"iter"
	"strconv"
	"strings"
)

// Of yields the lines of a text, those that say nothing too, and the number of each.
func Of(text string) iter.Seq2[int, string] {
	return func(yield func(int, string) bool) {
		n := 0
		for line := range strings.Lines(text) {
			n++
			if !yield(n, strings.TrimSuffix(line, "\n")) {
				return
			}
		}
	}
}

// Saying yields the lines of a text that say something: the number of each, and its words.
func Saying(text string) iter.Seq2[int, []string] {
	return func(yield func(int, []string) bool) {
		for n, line := range Of(text) {
			words := Words(line)
			if len(words) > 0 && !yield(n, words) {
				return
			}
		}
	}
}

// Count returns how many lines a text has, those that say nothing too.
func Count(text string) int {
	many := 0
	for range Of(text) {
		many++
	}
	return many
}

// Words returns the words of a line; a line that says nothing has none.
func Words(line string) []string {
	if strings.HasPrefix(line, "#") {
		return nil
	}
	// No other white space parts words, so that strings.Fields would take too much.
	return strings.FieldsFunc(line, func(r rune) bool { return r == ' ' })
}

// maxDigits is how many digits an int surely holds.
const maxDigits = 18

// Number reads a number of at most so many digits (and maxDigits).
// It takes decimal digits alone: strconv.Atoi would take signs and leading zeros too.
func Number(word string, digits int) (int, bool) {
	if word == "" || len(word) > min(digits, maxDigits) || len(word) > 1 && word[0] == '0' {
		return 0, false
	}
	n := 0
	for _, c := range []byte(word) {
		if c < '0' || c > '9' {
			return 0, false
		}
		n = 10*n + int(c-'0')
	}
	return n, true
}

// Signed reads a number as Number does, that may also have a minus sign, but not ahead of 0.
func Signed(word string, digits int) (int, bool) {
	behind, isLess := strings.CutPrefix(word, "-")
	n, ok := Number(behind, digits)
	if isLess {
		return -n, ok && n > 0
	}
	return n, ok
}

// Numbers reads words that are all numbers of at most so many digits; false unless they are, and are so many.
func Numbers(words []string, many, digits int) ([]int, bool) {
	if len(words) != many {
		return nil, false
	}
	numbers := make([]int, 0, many)
	for _, word := range words {
		n, ok := Number(word, digits)
		if !ok {
			return nil, false
		}
		numbers = append(numbers, n)
	}
	return numbers, true
}

// Row returns numbers with one space between them.
func Row(numbers ...int) string {
	words := make([]string, len(numbers))
	for i, n := range numbers {
		words[i] = strconv.Itoa(n)
	}
	return strings.Join(words, " ")
}

// ReadRow reads what Row returns; false if it is something else, or a number has more than maxDigits digits.
func ReadRow(row string) ([]int, bool) {
	if row == "" {
		return nil, true
	}
	var numbers []int
	// Of two spaces that follow each other comes an empty word, which is no number.
	for word := range strings.SplitSeq(row, " ") {
		n, ok := Signed(word, maxDigits)
		if !ok {
			return nil, false
		}
		numbers = append(numbers, n)
	}
	return numbers, true
}

// Fill puts the numbers of a row, in order, where they are meant to go; false, and none is put anywhere, unless they are so many.
func Fill(row string, numbers ...*int) bool {
	told, ok := ReadRow(row)
	if !ok || len(told) != len(numbers) {
		return false
	}
	for i, n := range numbers {
		*n = told[i]
	}
	return true
}

// Line returns the line of a word and numbers, with one space between them and no line feed.
func Line(word string, numbers ...int) string {
	if len(numbers) == 0 {
		return word
	}
	return word + " " + Row(numbers...)
}

// Write adds such a line, and its line feed, to a text.
func Write(text *strings.Builder, word string, numbers ...int) {
	text.WriteString(Line(word, numbers...))
	text.WriteByte('\n')
}
