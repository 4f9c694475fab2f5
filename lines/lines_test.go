package lines_test

import (
	"slices"
	"strings"
	"testing"

	"potbank/lines"
)

func TestOf(t *testing.T) {
	for text, want := range map[string]string{
		"":              "",
		"\n":            "1:",
		"a":             "1:a",
		"a\n":           "1:a",
		"\na b\n\n#c":   "1:|2:a b|3:|4:#c",
		"\n\n":          "1:|2:",
		" \r\n\x00\xff": "1: \r|2:\x00\xff",
	} {
		var got []string
		for n, line := range lines.Of(text) {
			got = append(got, string(rune('0'+n))+":"+line)
		}
		if s := strings.Join(got, "|"); s != want {
			t.Errorf("%q: %q, not %q", text, s, want)
		}
	}
}

func TestOfCanBeLeft(t *testing.T) {
	last := ""
	for n, line := range lines.Of("a\nb\nc") {
		last = line
		if n == 2 {
			break
		}
	}
	if last != "b" {
		t.Error(last)
	}
}

func TestWords(t *testing.T) {
	for line, want := range map[string]string{
		"": "", "   ": "", "#": "", "# a": "", " # a ": "#,a", "a": "a", "  a  -1 \tb": "a,-1,\tb", "a\nb c": "a\nb,c", "\xff \u00a0": "\xff,\u00a0",
	} {
		if s := strings.Join(lines.Words(line), ","); s != want {
			t.Errorf("%q: %q, not %q", line, s, want)
		}
	}
}

func TestSaying(t *testing.T) {
	for text, want := range map[string]string{
		"":                              "",
		"\n \n   \n#\n# a b\n#a":        "",
		"a":                             "1:a",
		"a b\n":                         "1:a,b",
		"\n\na\n\n":                     "3:a",
		"  a   b  \n#c\nd e f":          "1:a,b 3:d,e,f",
		" # a\na#\na #":                 "1:#,a 2:a# 3:a,#",
		"a\tb\r\nc\u00a0d \x00\n\xff\t": "1:a\tb\r 2:c\u00a0d,\x00 3:\xff\t",
	} {
		var got []string
		for n, words := range lines.Saying(text) {
			got = append(got, string(rune('0'+n))+":"+strings.Join(words, ","))
		}
		if s := strings.Join(got, " "); s != want {
			t.Errorf("%q: %q, not %q", text, s, want)
		}
	}
}

func TestSayingCanBeLeft(t *testing.T) {
	var got []int
	for n := range lines.Saying("a\n\nb\nc\nd") {
		got = append(got, n)
		if n == 3 {
			break
		}
	}
	if !slices.Equal(got, []int{1, 3}) {
		t.Error(got)
	}
}

func TestNumber(t *testing.T) {
	for word, want := range map[string]int{"0": 0, "7": 7, "10": 10, "120": 120, "1234567": 1234567} {
		if n, ok := lines.Number(word, 7); n != want || !ok {
			t.Errorf("%q: %v %v", word, n, ok)
		}
	}
	for _, word := range []string{"", "00", "01", "+1", "-1", "-0", "1_0", "0x1", "1e1", "1.", "1 ", "/", ":", "a", "\u0665", "12345678"} {
		if n, ok := lines.Number(word, 7); n != 0 || ok {
			t.Errorf("%q: %v %v", word, n, ok)
		}
	}
	if n, ok := lines.Number("999999999999999999", 99); n != 999999999999999999 || !ok {
		t.Error(n, ok)
	}
	if n, ok := lines.Number("9999999999999999999", 99); n != 0 || ok {
		t.Error("an int does not surely hold it", n, ok)
	}
	if n, ok := lines.Number("1", 0); n != 0 || ok {
		t.Error(n, ok)
	}
}

func TestSigned(t *testing.T) {
	for word, want := range map[string]int{"0": 0, "7": 7, "-7": -7, "120": 120, "-120": -120, "999": 999, "-999": -999} {
		if n, ok := lines.Signed(word, 3); n != want || !ok {
			t.Errorf("%q: %v %v", word, n, ok)
		}
	}
	for _, word := range []string{"", "-", "-0", "--1", "+1", "-01", "00", "- 1", "1-", "-a", "1000", "-1000"} {
		if n, ok := lines.Signed(word, 3); n != 0 || ok {
			t.Errorf("%q: %v %v", word, n, ok)
		}
	}
	if n, ok := lines.Signed("-999999999999999999", 99); n != -999999999999999999 || !ok {
		t.Error(n, ok)
	}
}

func TestRow(t *testing.T) {
	for want, numbers := range map[string][]int{"": nil, "0": {0}, "-1": {-1}, "10 -20 0 3": {10, -20, 0, 3}, "999999999999999999": {999999999999999999}} {
		if row := lines.Row(numbers...); row != want {
			t.Errorf("%q, not %q", row, want)
		}
		if l, ok := lines.ReadRow(want); !slices.Equal(l, numbers) || !ok {
			t.Error(want, l, ok)
		}
	}
	for _, row := range []string{" ", " 1", "1 ", "1  2", "1 a", "a", "1,2", "01", "-0", "+1", "1\t2", "1\n", "9999999999999999999", "-9999999999999999999"} {
		if l, ok := lines.ReadRow(row); len(l) != 0 || ok {
			t.Errorf("%q: %v %v", row, l, ok)
		}
	}
}

func TestFill(t *testing.T) {
	a, b := 7, 8
	for _, row := range []string{"", "1", "1 2 3", "1 x", "1  2"} {
		if lines.Fill(row, &a, &b) || a != 7 || b != 8 {
			t.Errorf("%q: %v %v", row, a, b)
		}
	}
	if !lines.Fill("-3 4", &a, &b) || a != -3 || b != 4 {
		t.Error(a, b)
	}
	if !lines.Fill("") || lines.Fill("1") {
		t.Error("no numbers are none")
	}
}

func TestCount(t *testing.T) {
	for text, want := range map[string]int{"": 0, "\n": 1, "a": 1, "a\n": 1, "#": 1, " ": 1, "\n\n": 2, "\na": 2, "a\n\nb": 3, "a\n#\n \n": 3, "\r": 1} {
		if n := lines.Count(text); n != want {
			t.Errorf("%q: %v, not %v", text, n, want)
		}
	}
}

func TestNumbers(t *testing.T) {
	if l, ok := lines.Numbers([]string{"0", "99", "7"}, 3, 2); !slices.Equal(l, []int{0, 99, 7}) || !ok {
		t.Error(l, ok)
	}
	if l, ok := lines.Numbers(nil, 0, 2); len(l) != 0 || !ok {
		t.Error(l, ok)
	}
	for _, words := range [][]string{nil, {"1"}, {"1", "2", "3"}, {"1", "a"}, {"-1", "2"}, {"1", "100"}, {"01", "2"}} {
		if l, ok := lines.Numbers(words, 2, 2); len(l) != 0 || ok {
			t.Error(words, l, ok)
		}
	}
	if l, ok := lines.Numbers(nil, -1, 2); len(l) != 0 || ok {
		t.Error(l, ok)
	}
}

func TestLine(t *testing.T) {
	for want, line := range map[string]string{"a": lines.Line("a"), "a 0": lines.Line("a", 0), "b -1 20": lines.Line("b", -1, 20)} {
		if line != want {
			t.Errorf("%q, not %q", line, want)
		}
	}
}

func TestWrite(t *testing.T) {
	var text strings.Builder
	lines.Write(&text, "a", 1, 0, -20)
	lines.Write(&text, "b")
	if s := text.String(); s != "a 1 0 -20\nb\n" {
		t.Errorf("%q", s)
	}
}
