package ware

import (
	"strings"

	"potbank/api"
	"potbank/lines"
)

const (
	shapeWord = "shape"
	bodyWord  = "body"
	maxDigits = 7
)

// wrongLine is the number of a line that has another form than a text of wares; reading one panics with it.
type wrongLine int

// Print returns the text of wares.
func Print(w api.Wares) (string, api.Errno) {
	if e := Check(w); e != api.OK {
		return "", e
	}
	var text strings.Builder
	for _, s := range w.Shapes {
		lines.Write(&text, shapeWord, s.Id, s.Wide.Lo, s.Wide.Hi, s.Deep.Lo, s.Deep.Hi, s.High.Lo, s.High.Hi,
			s.Nest, s.Weight.Lo, s.Weight.Hi, s.Bears)
	}
	for _, b := range w.Bodies {
		lines.Write(&text, bodyWord, b.Id, b.Shrink.Lo, b.Shrink.Hi, b.Loss.Lo, b.Loss.Hi, b.Heat.Lo, b.Heat.Hi)
	}
	return text.String(), api.OK
}

// Parse reads a text of wares; with ErrText it returns the number of the first line that is wrong.
func Parse(text string) (w api.Wares, line int, err api.Errno) {
	if len(text) > api.MaxWareLen {
		return api.Wares{}, 0, api.ErrLong
	}
	defer func() {
		if r := recover(); r != nil {
			wrong, _ := r.(wrongLine)
			w, line, err = api.Wares{}, int(wrong), api.ErrText
		}
	}()
	w = read(text)
	if e := Check(w); e != api.OK {
		return api.Wares{}, 0, e
	}
	return w, 0, api.OK
}

// read returns the shapes and the bodies of a text, in the order of their lines.
func read(text string) api.Wares {
	var w api.Wares
	for line, words := range lines.Saying(text) {
		switch words[0] {
		case shapeWord:
			w.Shapes = append(w.Shapes, readShape(line, words[1:]))
		case bodyWord:
			w.Bodies = append(w.Bodies, readBody(line, words[1:]))
		default:
			panic(wrongLine(line))
		}
	}
	return w
}

func readShape(line int, words []string) api.Shape {
	n := readNumbers(line, words, 11)
	return api.Shape{
		Id:     n[0],
		Wide:   api.Range{Lo: n[1], Hi: n[2]},
		Deep:   api.Range{Lo: n[3], Hi: n[4]},
		High:   api.Range{Lo: n[5], Hi: n[6]},
		Nest:   n[7],
		Weight: api.Range{Lo: n[8], Hi: n[9]},
		Bears:  n[10],
	}
}

func readBody(line int, words []string) api.Body {
	n := readNumbers(line, words, 7)
	return api.Body{
		Id:     n[0],
		Shrink: api.Range{Lo: n[1], Hi: n[2]},
		Loss:   api.Range{Lo: n[3], Hi: n[4]},
		Heat:   api.Range{Lo: n[5], Hi: n[6]},
	}
}

// readNumbers returns what the words tell; the line is wrong unless they are so many numbers.
func readNumbers(line int, words []string, many int) []int {
	numbers, ok := lines.Numbers(words, many, maxDigits)
	if !ok {
		panic(wrongLine(line))
	}
	return numbers
}
