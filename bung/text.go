package bung

import (
	"strings"

	"potbank/api"
	"potbank/lines"
)

const (
	wadWord    = "wad"
	saggarWord = "saggar"
	maxLen     = 20000
	maxDigits  = 9
)

// Print returns the text of a bung.
func Print(b api.Bung) (string, api.Errno) {
	if e := Check(b); e != api.OK {
		return "", e
	}
	var text strings.Builder
	lines.Write(&text, wadWord, b.Wad.Lo, b.Wad.Hi)
	for _, s := range b.Saggars {
		lines.Write(&text, saggarWord, s.Id, s.Weight.Lo, s.Weight.Hi, s.Bears.Lo, s.Bears.Hi, s.High.Lo, s.High.Hi, s.Tilt)
	}
	return text.String(), api.OK
}

// Parse reads a text of a bung; with ErrText it returns the number of the first line that is wrong, or missing.
func Parse(text string) (api.Bung, int, api.Errno) {
	if len(text) > maxLen {
		return api.Bung{}, 0, api.ErrLong
	}
	var b api.Bung
	form, missing := readWad, lines.Count(text)+1
	for line, words := range lines.Saying(text) {
		if !form(&b, words) {
			return api.Bung{}, line, api.ErrText
		}
		form, missing = readSaggar, 0
	}
	if missing > 0 {
		return api.Bung{}, missing, api.ErrText
	}
	if e := Check(b); e != api.OK {
		return api.Bung{}, 0, e
	}
	return b, 0, api.OK
}

// readWad gives a bung the wad that the words of a line tell; false if they have another form.
func readWad(b *api.Bung, words []string) bool {
	n, ok := lines.Numbers(words[1:], 2, maxDigits)
	if !ok || words[0] != wadWord {
		return false
	}
	b.Wad = api.Range{Lo: n[0], Hi: n[1]}
	return true
}

// readSaggar puts on a bung the saggar that the words of a line tell; false if they have another form.
func readSaggar(b *api.Bung, words []string) bool {
	n, ok := lines.Numbers(words[1:], 8, maxDigits)
	if !ok || words[0] != saggarWord {
		return false
	}
	b.Saggars = append(b.Saggars, api.Saggar{
		Id:     n[0],
		Weight: api.Range{Lo: n[1], Hi: n[2]},
		Bears:  api.Range{Lo: n[3], Hi: n[4]},
		High:   api.Range{Lo: n[5], Hi: n[6]},
		Tilt:   n[7],
	})
	return true
}
