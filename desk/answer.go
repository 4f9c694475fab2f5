package desk

import (
	"strings"

	"potbank/api"
	"potbank/lines"
)

// none is the line of a list that is empty.
const none = "none"

// one is the answer that has one line, of a word and numbers.
func one(word string, numbers ...int) []string { return []string{lines.Line(word, numbers...)} }

// readBehind reads the numbers that stand behind a word in a line; false if it is another line.
func readBehind(word, line string) ([]int, bool) {
	row, is := strings.CutPrefix(line, word+" ")
	numbers, ok := lines.ReadRow(row)
	return numbers, is && ok
}

// list returns the line of a list of numbers.
func list(numbers []int) string {
	if len(numbers) == 0 {
		return none
	}
	return lines.Row(numbers...)
}

// span returns the line of both ends of a range.
func span(r api.Range) string { return lines.Row(r.Lo, r.Hi) }

// opinion returns the word of an answer.
func opinion(answer int) string {
	switch answer {
	case api.No:
		return "no"
	case api.Yes:
		return "yes"
	}
	return "maybe"
}

// each returns a line for each element of a list.
func each[T any](l []T, line func(v T) string) []string {
	if len(l) == 0 {
		return []string{none}
	}
	all := make([]string, len(l))
	for i, v := range l {
		all[i] = line(v)
	}
	return all
}
