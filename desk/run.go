package desk

import (
	"iter"
	"strings"

	"potbank/api"
	"potbank/lines"
)

// The lines of a transcript begin with these: those of the script, and those of the answers.
const (
	askMark    = "> "
	answerMark = "< "
)

// isSilent reports whether a line says nothing.
func isSilent(line string) bool { return len(lines.Words(line)) == 0 }

// isLongScript reports whether a text is longer than a script may be.
func isLongScript(text string) bool {
	many := 0
	for range lines.Saying(text) {
		many++
	}
	return len(text) > api.MaxScript || many > api.MaxLines
}

// commandsOf returns the commands of a script; with an error of Parse, the number of the line.
func commandsOf(text string) ([]api.Command, int, api.Errno) {
	if isLongScript(text) {
		return nil, 0, api.ErrLong
	}
	var l []api.Command
	for n, line := range lines.Of(text) {
		if isSilent(line) {
			continue
		}
		c, _, e := Parse(line)
		if e != api.OK {
			return nil, n, e
		}
		l = append(l, c)
	}
	return l, 0, api.OK
}

// played yields the lines of the transcript of commands, with their marks.
func played(l []api.Command) iter.Seq[string] {
	return func(yield func(string) bool) {
		d := New()
		for _, c := range l {
			line, _ := Print(c)
			if !yield(askMark + line) {
				return
			}
			for _, line := range d.Do(c) {
				if !yield(answerMark + line) {
					return
				}
			}
		}
	}
}

// Run plays a script at a new desk and returns what it tells.
func Run(text string) (string, int, api.Errno) {
	l, line, e := commandsOf(text)
	if e != api.OK {
		return "", line, e
	}
	var all strings.Builder
	for line := range played(l) {
		if answer, is := strings.CutPrefix(line, answerMark); is {
			all.WriteString(answer + "\n")
		}
	}
	return all.String(), 0, api.OK
}

// Transcript returns the transcript of a script.
func Transcript(text string) (string, int, api.Errno) {
	l, line, e := commandsOf(text)
	if e != api.OK {
		return "", line, e
	}
	var paper strings.Builder
	for line := range played(l) {
		paper.WriteString(line + "\n")
		if paper.Len() > api.MaxPaper {
			return "", 0, api.ErrLong
		}
	}
	return paper.String(), 0, api.OK
}
