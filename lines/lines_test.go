package lines_test

import (
	"slices"
	"strings"
	"testing"

	"potbank/lines"
)

func TestSaying(t *testing.T) {
	for text, want := range map[string]string{
		"":                              "",
		"\n \n   \n#\n# a b\n#a":        "",
		"a":                             "1:a",
		"a b\n":                         "1:a,b",
		"\n\na\n\n":                     "3:a",
		"  a   b  \n#c\nd e f":          "1:a,b 3:d,e,f",
		" # a\na#\na #":                 "1:#,a 2:a# 3:a,#",
		"a\tb\r\nc\u00a0d \x00\n\xff\t": "1:a\tb\r 2:c\u00a0d,\x00 3:\xff\t",
	} {
		var got []string
		for n, words := range lines.Saying(text) {
			got = append(got, string(rune('0'+n))+":"+strings.Join(words, ","))
		}
		if s := strings.Join(got, " "); s != want {
			t.Errorf("%q: %q, not %q", text, s, want)
		}
	}
}

func TestSayingCanBeLeft(t *testing.T) {
	var got []int
	for n := range lines.Saying("a\n\nb\nc\nd") {
		got = append(got, n)
		if n == 3 {
			break
		}
	}
	if !slices.Equal(got, []int{1, 3}) {
		t.Error(got)
	}
}

func TestNumber(t *testing.T) {
	for word, want := range map[string]int{"0": 0, "7": 7, "10": 10, "120": 120, "1234567": 1234567} {
		if n, ok := lines.Number(word, 7); n != want || !ok {
			t.Errorf("%q: %v %v", word, n, ok)
		}
	}
	for _, word := range []string{"", "00", "01", "+1", "-1", "-0", "1_0", "0x1", "1e1", "1.", "1 ", "/", ":", "a", "\u0665", "12345678"} {
		if n, ok := lines.Number(word, 7); n != 0 || ok {
			t.Errorf("%q: %v %v", word, n, ok)
		}
	}
	if n, ok := lines.Number("999999999999999999", 99); n != 999999999999999999 || !ok {
		t.Error(n, ok)
	}
	if n, ok := lines.Number("9999999999999999999", 99); n != 0 || ok {
		t.Error("an int does not surely hold it", n, ok)
	}
	if n, ok := lines.Number("1", 0); n != 0 || ok {
		t.Error(n, ok)
	}
}

func TestCount(t *testing.T) {
	for text, want := range map[string]int{"": 0, "\n": 1, "a": 1, "a\n": 1, "#": 1, " ": 1, "\n\n": 2, "\na": 2, "a\n\nb": 3, "a\n#\n \n": 3, "\r": 1} {
		if n := lines.Count(text); n != want {
			t.Errorf("%q: %v, not %v", text, n, want)
		}
	}
}

func TestNumbers(t *testing.T) {
	if l, ok := lines.Numbers([]string{"0", "99", "7"}, 3, 2); !slices.Equal(l, []int{0, 99, 7}) || !ok {
		t.Error(l, ok)
	}
	if l, ok := lines.Numbers(nil, 0, 2); len(l) != 0 || !ok {
		t.Error(l, ok)
	}
	for _, words := range [][]string{nil, {"1"}, {"1", "2", "3"}, {"1", "a"}, {"-1", "2"}, {"1", "100"}, {"01", "2"}} {
		if l, ok := lines.Numbers(words, 2, 2); len(l) != 0 || ok {
			t.Error(words, l, ok)
		}
	}
	if l, ok := lines.Numbers(nil, -1, 2); len(l) != 0 || ok {
		t.Error(l, ok)
	}
}

func TestWrite(t *testing.T) {
	var text strings.Builder
	lines.Write(&text, "a", 1, 0, -20)
	lines.Write(&text, "b")
	if s := text.String(); s != "a 1 0 -20\nb\n" {
		t.Errorf("%q", s)
	}
}
