package book_test

import (
	"math/rand"
	"slices"
	"testing"

	"potbank/api"
	"potbank/book"
	"potbank/probe"
)

func TestHalves(t *testing.T) {
	one := half{'p', 0, 0, 1, 0, 0, 0, 2, 2, 0, 0, 5, 0, 0, 0, 10, 0, 0, 0, 12, 0, 0, 0, 9, 'b', 'e', 'n', 't', ' ', '1', '0', 165}
	two := half{'p', 0, 0, 1, 0, 0, 1, 2, '0', '0', 31: 165}
	if l, e := book.Halves(bent(), 0, 1); !slices.Equal(l, []half{one, two}) || e != api.OK {
		t.Error(l, e)
	}
	one[1], one[2], one[3], one[5] = 0x0f, 0x42, 0x40, 59
	two[1], two[2], two[3], two[5] = 0x0f, 0x42, 0x40, 59
	if l, e := book.Halves(bent(), 59, 1000000); !slices.Equal(l, []half{one, two}) || e != api.OK {
		t.Error(l, e)
	}
	for n, many := range map[int]int{0: 1, 7: 1, 8: 2, 30: 2, 31: 3, 191: 9, 192: 10, 200: 10} {
		x := someTextOf(n)
		if l, e := book.Halves(x, 7, 300); len(l) != many || !slices.Equal(l, partsOf(x, 7, 300)) || e != api.OK {
			t.Error(n, l, e)
		}
	}
}

func someTextOf(n int) api.Record {
	text := make([]byte, n)
	for i := range text {
		text[i] = byte('a' + i%26)
	}
	return note(1, 0, 1, 1, string(text))
}

func TestHalvesOfWrongArguments(t *testing.T) {
	for _, n := range probe.WrongNumbers(0, 59) {
		if l, e := book.Halves(bent(), n, 1); len(l) > 0 || e != api.ErrArg {
			t.Error(n, l, e)
		}
	}
	for _, n := range probe.WrongNumbers(1, 1000000) {
		if l, e := book.Halves(bent(), 0, n); len(l) > 0 || e != api.ErrArg {
			t.Error(n, l, e)
		}
	}
	for _, r := range wrongRecords() {
		if l, e := book.Halves(r, 0, 1); len(l) > 0 || e != api.ErrRecord {
			t.Error(r, l, e)
		}
		if l, e := book.Halves(r, -1, 1); len(l) > 0 || e != api.ErrRecord {
			t.Error(r, l, e)
		}
	}
}

// P9.3: the halves of different records, numbers or epochs have none in common, but those of records that are alike in a piece.
func TestHalvesDiffer(t *testing.T) {
	r := rand.New(rand.NewSource(9))
	type cause struct {
		r             api.Record
		number, epoch int
	}
	told := map[string]cause{}
	for range 20000 {
		x := cause{someRecord(r, entry(r.Intn(2), r.Intn(3))), r.Intn(3) * 29, 1 + 255*r.Intn(3)}
		if r.Intn(2) == 0 {
			x.r = note(0, r.Intn(2), 1+r.Intn(2), 1+r.Intn(2), someTextOf(r.Intn(40)).Text)
		}
		l, e := book.Halves(x.r, x.number, x.epoch)
		if e != api.OK || !slices.Equal(l, partsOf(x.r, x.number, x.epoch)) {
			t.Fatal(x, l, e)
		}
		var all []byte
		for _, h := range l {
			all = append(all, h[:]...)
		}
		if y, ok := told[string(all)]; ok && y != x {
			t.Fatal(x, y)
		}
		told[string(all)] = x
	}
	if len(told) < 10000 {
		t.Error("the cases are lopsided", len(told))
	}
}
