package saggar

import (
	"strconv"
	"strings"

	"potbank/api"
	"potbank/limits"
	"potbank/lines"
)

const (
	standWord  = "stand"
	turnedWord = "turned"
	maxLen     = 400
	maxDigits  = 1
)

// arePrinted reports whether stands may be those of a packing in some box.
func arePrinted(p []api.Stand) bool {
	if len(p) > api.MaxItems {
		return false
	}
	for _, at := range p {
		if !limits.IsBetween(at.Y, 0, api.MaxSide-1) || !limits.IsBetween(at.X, 0, api.MaxSide-1) {
			return false
		}
	}
	return true
}

// Print returns the text of stands; ErrPack if they are too many, or one lies beyond the greatest floor.
func Print(p []api.Stand) (string, api.Errno) {
	if !arePrinted(p) {
		return "", api.ErrPack
	}
	var text strings.Builder
	for _, at := range p {
		text.WriteString(standWord + " " + strconv.Itoa(at.Y) + " " + strconv.Itoa(at.X))
		if at.Turned {
			text.WriteString(" " + turnedWord)
		}
		text.WriteByte('\n')
	}
	return text.String(), api.OK
}

// Parse reads a text of stands; with ErrText it returns the number of the first line that is wrong.
func Parse(text string) ([]api.Stand, int, api.Errno) {
	if len(text) > maxLen {
		return nil, 0, api.ErrLong
	}
	var p []api.Stand
	for line, words := range lines.Saying(text) {
		at, ok := readStand(words)
		if !ok {
			return nil, line, api.ErrText
		}
		p = append(p, at)
	}
	if !arePrinted(p) {
		return nil, 0, api.ErrPack
	}
	return p, 0, api.OK
}

// readStand returns the stand that the words of a line tell; false if they have another form.
func readStand(words []string) (api.Stand, bool) {
	turned := len(words) == 4 && words[3] == turnedWord
	if words[0] != standWord || len(words) != 3 && !turned {
		return api.Stand{}, false
	}
	y, isY := lines.Number(words[1], maxDigits)
	x, isX := lines.Number(words[2], maxDigits)
	if !isY || !isX {
		return api.Stand{}, false
	}
	return api.Stand{Y: y, X: x, Turned: turned}, true
}
