package book_test

import (
	"bytes"
	"math"
	"math/rand"
	"slices"
	"strings"
	"testing"

	"potbank/api"
	"potbank/book"
	"potbank/probe"
)

// wrongRecords lists records that are not valid, each for one reason.
func wrongRecords() []api.Record {
	var l []api.Record
	add := func(spoil func(r *api.Record)) {
		r := bent()
		spoil(&r)
		l = append(l, r)
	}
	withdraw := func(spoil func(r *api.Record)) {
		r := withdrawal(2, 7, 4, 3)
		spoil(&r)
		l = append(l, r)
	}
	for _, n := range probe.WrongNumbers(0, 5) {
		add(func(r *api.Record) { r.At.House = n })
		withdraw(func(r *api.Record) { r.At.House, r.Of.House = n, n })
	}
	for _, n := range probe.WrongNumbers(0, 9999) {
		add(func(r *api.Record) { r.At.No = n })
	}
	for _, n := range probe.WrongNumbers(0, 40) {
		add(func(r *api.Record) { r.Kind = n })
	}
	for _, n := range probe.WrongNumbers(0, 100000) {
		add(func(r *api.Record) { r.Day = n })
		add(func(r *api.Record) { r.Known = n })
		withdraw(func(r *api.Record) { r.Known = n })
	}
	for _, text := range []string{strings.Repeat("x", 201), "a\x1fb", "\x7f", "a\n", "\x00", "\x80", "\xff", "ä", strings.Repeat("x", 256)} {
		add(func(r *api.Record) { r.Text = text })
	}
	add(func(r *api.Record) { r.Of.House = 2 })
	add(func(r *api.Record) { r.At.No, r.Of.No = 7, 1 })
	withdraw(func(r *api.Record) { r.Day = 1 })
	withdraw(func(r *api.Record) { r.Text = "x" })
	withdraw(func(r *api.Record) { r.Of.No = 7 })
	withdraw(func(r *api.Record) { r.Of.No = 8 })
	withdraw(func(r *api.Record) { r.Of.No = -1 })
	withdraw(func(r *api.Record) { r.Of.House = 1 })
	withdraw(func(r *api.Record) { r.Of.House = 3 })
	withdraw(func(r *api.Record) { r.Of.House = math.MinInt })
	return l
}

// farRecords lists valid records with numbers at their limits.
func farRecords() []api.Record {
	var every []byte
	for b := byte(0x20); b <= 0x7e; b++ {
		every = append(every, b)
	}
	l := []api.Record{
		{Kind: 1}, {At: entry(5, 9999), Kind: 40, Day: 100000, Known: 100000, Text: strings.Repeat("~", 200)}, {Kind: 1, Text: string(every)},
		withdrawal(5, 9999, 100000, 9998), withdrawal(0, 1, 0, 0), withdrawal(3, 9999, 0, 256), {At: entry(1, 0x1234), Kind: 7, Day: 0x10203, Known: 0x10405},
	}
	for _, n := range lengths() {
		l = append(l, note(4, 1, 3, 17, strings.Repeat("x", n)))
	}
	return l
}

func TestCheckRecord(t *testing.T) {
	for _, r := range append(farRecords(), bent()) {
		if book.CheckRecord(r) != api.OK || !isRecord(r) {
			t.Error(r)
		}
	}
	for _, r := range wrongRecords() {
		if book.CheckRecord(r) != api.ErrRecord || isRecord(r) {
			t.Error(r)
		}
		if b, e := book.Encode(r); len(b) != 0 || e != api.ErrRecord {
			t.Error(r, b, e)
		}
	}
}

func TestEncode(t *testing.T) {
	want := slices.Concat([]byte{2, 0, 0, 5, 0, 0, 0, 10, 0, 0, 0, 12, 0, 0, 0, 9}, []byte("bent 1000"))
	if b, e := book.Encode(bent()); !bytes.Equal(b, want) || e != api.OK {
		t.Error(b, e)
	}
	want = []byte{3, 0x27, 0x0f, 0, 0, 0, 0, 0, 0, 1, 0x86, 0xa0, 3, 1, 2, 0}
	if b, e := book.Encode(withdrawal(3, 9999, 100000, 258)); !bytes.Equal(b, want) || e != api.OK {
		t.Error(b, e)
	}
}

// P9.3.
func TestDecodeOfEncode(t *testing.T) {
	r := rand.New(rand.NewSource(1))
	l := append(farRecords(), bent())
	for range 2000 {
		l = append(l, someRecord(r, entry(r.Intn(6), r.Intn(10000))))
	}
	for _, x := range l {
		b, e := book.Encode(x)
		if e != api.OK || !bytes.Equal(b, bytesOf(x)) {
			t.Fatal(x, b, e)
		}
		if y, e := book.Decode(b); y != x || e != api.OK {
			t.Fatal(x, y, e)
		}
	}
}

// What Decode takes, it takes from the bytes of a record alone.
func TestDecodeOfOtherBytes(t *testing.T) {
	r := rand.New(rand.NewSource(2))
	taken, refused := 0, 0
	check := func(b []byte) {
		x, e := book.Decode(b)
		switch {
		case e == api.OK && isRecord(x) && bytes.Equal(bytesOf(x), b):
			taken++
		case e == api.ErrRecord && x == api.Record{}:
			refused++
		default:
			t.Fatal(b, x, e)
		}
	}
	for _, x := range append(farRecords(), bent()) {
		whole := bytesOf(x)
		for n := range whole {
			check(whole[:n])
			if e := book.CheckRecord(must(book.Decode(whole))); e != api.OK {
				t.Fatal(e)
			}
		}
		check(append(slices.Clone(whole), 0))
		check(append(slices.Clone(whole), 'x'))
		for range 300 {
			b := slices.Clone(whole)
			b[r.Intn(min(len(b), 20))] = byte(r.Intn(256))
			check(b)
			b[r.Intn(len(b))] = byte(r.Intn(256))
			check(b)
		}
	}
	check(nil)
	if taken < 1000 || refused < 5000 {
		t.Error("the cases are lopsided", taken, refused)
	}
}

// The bytes of records that are not valid are no record's.
func TestDecodeOfWrongRecords(t *testing.T) {
	for _, r := range wrongRecords() {
		isNarrow := isIn(r.At.House, 0, 255) && isIn(r.At.No, 0, 65535) && isIn(r.Kind, 0, 255) && isIn(r.Of.House, 0, 255) && isIn(r.Of.No, 0, 65535)
		if !isNarrow || !isIn(r.Day, 0, math.MaxUint32) || !isIn(r.Known, 0, math.MaxUint32) || len(r.Text) > 255 {
			continue
		}
		if x, e := book.Decode(bytesOf(r)); x != (api.Record{}) || e != api.ErrRecord {
			t.Error(r, x, e)
		}
	}
	for _, i := range []int{0, 1, 3, 4, 5, 8, 9, 12, 13, 14} {
		b := bytesOf(bent())
		b[i] = 255
		if x, e := book.Decode(b); x != (api.Record{}) || e != api.ErrRecord {
			t.Error(i, x, e)
		}
	}
}
