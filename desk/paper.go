package desk

import (
	"strings"

	"potbank/api"
	"potbank/lines"
)

// scene is a line of a paper's script, without its mark: the number of that line, and what the paper has as its answer.
type scene struct {
	at     int
	line   string
	answer []string
}

// scenesOf returns those of a paper. The first one has no line: its answer is what is told ahead of all lines of the script.
func scenesOf(paper string) ([]scene, int, api.Errno) {
	if len(paper) > api.MaxPaper {
		return nil, 0, api.ErrLong
	}
	l := []scene{{}}
	for n, line := range lines.Of(paper) {
		if asked, is := strings.CutPrefix(line, askMark); is {
			l = append(l, scene{at: n, line: asked})
		} else if answered, is := strings.CutPrefix(line, answerMark); is {
			last := &l[len(l)-1]
			last.answer = append(last.answer, answered)
		} else {
			return nil, n, api.ErrPaper
		}
	}
	return l, 0, api.OK
}

// Open returns the script of a transcript, and what is told in it.
func Open(paper string) (text, told string, line int, e api.Errno) {
	scenes, line, e := scenesOf(paper)
	if e != api.OK {
		return "", "", line, e
	}
	var script, answers strings.Builder
	for i, s := range scenes {
		if i > 0 {
			script.WriteString(s.line + "\n")
		}
		for _, line := range s.answer {
			answers.WriteString(line + "\n")
		}
	}
	return script.String(), answers.String(), 0, api.OK
}

// isCommand reports whether a line of a script may be one of a transcript, as far as it can be parsed.
func isCommand(line string) bool {
	if isSilent(line) {
		return false
	}
	c, _, e := Parse(line)
	if e != api.OK {
		return true
	}
	printed, _ := Print(c)
	return line == printed
}

// commandsIn returns the commands of the scenes of a paper behind the first one; with an error, the number of the line.
func commandsIn(scenes []scene) ([]api.Command, int, api.Errno) {
	var script strings.Builder
	for _, s := range scenes {
		if !isCommand(s.line) {
			return nil, s.at, api.ErrPaper
		}
		script.WriteString(s.line + "\n")
	}
	l, n, e := commandsOf(script.String())
	if n > 0 {
		n = scenes[n-1].at
	}
	return l, n, e
}

// firstOther returns the index of the first line at which two answers differ; -1 if they are the same.
func firstOther(x, y []string) int {
	for i := range max(len(x), len(y)) {
		if i >= len(x) || i >= len(y) || x[i] != y[i] {
			return i
		}
	}
	return -1
}

// shown returns what checks, for the kinds of commands that show something, the lines that show it.
func (a doing) shown() map[int]func(said []string) bool {
	return map[int]func(said []string) bool{api.CmdProve: a.showsProof, api.CmdCut: a.showsCut}
}

// wrongIn does a command, and returns the index of the first line of an answer that is wrong; -1 if there is none.
func (d *Desk) wrongIn(answer []string, c api.Command) int {
	due, e := d.do(c)
	if e != api.OK {
		due = refused(e)
	}
	i := firstOther(due, answer)
	shows, isShown := doing{d, c}.shown()[c.Kind]
	if i <= 0 || e != api.OK || !isShown {
		return i
	}
	if shows(answer[1:]) {
		return -1
	}
	return 1
}

// wrongLine returns the number of the first line of a paper that is not the one that is due; 0 if there is none.
func wrongLine(scenes []scene, l []api.Command) int {
	if len(scenes[0].answer) > 0 {
		return 1
	}
	d := New()
	for i, s := range scenes[1:] {
		if wrong := d.wrongIn(s.answer, l[i]); wrong >= 0 {
			return s.at + 1 + wrong
		}
	}
	return 0
}

// Accept reports whether a paper is a transcript; if it is not, it returns the number of the first line that is wrong.
func Accept(paper string) (int, api.Errno) {
	scenes, line, e := scenesOf(paper)
	if e != api.OK {
		return line, e
	}
	l, line, e := commandsIn(scenes[1:])
	if e != api.OK {
		return line, e
	}
	if line := wrongLine(scenes, l); line > 0 {
		return line, api.ErrSaid
	}
	if paper != "" && !strings.HasSuffix(paper, "\n") {
		return lines.Count(paper), api.ErrSaid
	}
	return 0, api.OK
}
