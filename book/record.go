package book

import (
	"potbank/api"
	"potbank/limits"
)

// wrongBytes is what reading bytes panics with that are not those of a record, or of its parts.
type wrongBytes struct{}

// writer has the bytes that were written.
type writer struct{ bytes []byte }

// put writes a number in so many bytes, the most significant one first.
func (w *writer) put(n, many int) {
	for i := many - 1; i >= 0; i-- {
		w.bytes = append(w.bytes, byte(n>>(8*i)))
	}
}

func (w *writer) entry(x api.Entry) {
	w.put(x.House, 1)
	w.put(x.No, 2)
}

// reader has the bytes that are to be read.
type reader struct{ rest []byte }

// first returns the first elements of a list; it panics if there are not so many.
func first[T any](l []T, many int) []T {
	if many > len(l) {
		panic(wrongBytes{})
	}
	return l[:many]
}

func (in *reader) take(many int) []byte {
	b := first(in.rest, many)
	in.rest = in.rest[many:]
	return b
}

// number reads a number of so many bytes, the most significant one first.
func (in *reader) number(many int) int {
	n := 0
	for _, b := range in.take(many) {
		n = n<<8 | int(b)
	}
	return n
}

func (in *reader) entry() api.Entry {
	house := in.number(1)
	return api.Entry{House: house, No: in.number(2)}
}

// record reads a record; it panics if that is not valid.
func (in *reader) record() api.Record {
	var r api.Record
	r.At = in.entry()
	r.Kind = in.number(1)
	r.Day = in.number(4)
	r.Known = in.number(4)
	r.Of = in.entry()
	many := in.number(1)
	r.Text = string(in.take(many))
	if !isRecord(r) {
		panic(wrongBytes{})
	}
	return r
}

func isText(text string) bool {
	if len(text) > api.MaxText {
		return false
	}
	for _, b := range []byte(text) {
		if !limits.IsBetween(int(b), ' ', '~') {
			return false
		}
	}
	return true
}

func isRecord(r api.Record) bool {
	if !limits.IsEntry(r.At) || !limits.IsBetween(r.Kind, 0, api.MaxKind) || !limits.IsDay(r.Known) {
		return false
	}
	if r.Kind == api.RecWithdraw {
		return r.Day == 0 && r.Text == "" && limits.IsAhead(r.Of, r.At)
	}
	return limits.IsDay(r.Day) && isText(r.Text) && r.Of == api.Entry{}
}

// bytesOf returns the bytes of a valid record.
func bytesOf(r api.Record) []byte {
	var w writer
	w.entry(r.At)
	w.put(r.Kind, 1)
	w.put(r.Day, 4)
	w.put(r.Known, 4)
	w.entry(r.Of)
	w.put(len(r.Text), 1)
	return append(w.bytes, r.Text...)
}

// CheckRecord returns OK for a valid record, and otherwise ErrRecord.
func CheckRecord(r api.Record) api.Errno { return limits.Unless(isRecord(r), api.ErrRecord) }

// Encode returns the bytes of a record.
func Encode(r api.Record) ([]byte, api.Errno) {
	if !isRecord(r) {
		return nil, api.ErrRecord
	}
	return bytesOf(r), api.OK
}

// Decode returns the record whose bytes these are, all of them.
func Decode(b []byte) (r api.Record, err api.Errno) {
	defer func() {
		if recover() != nil {
			r, err = api.Record{}, api.ErrRecord
		}
	}()
	in := reader{b}
	r = in.record()
	if len(in.rest) > 0 {
		panic(wrongBytes{})
	}
	return r, api.OK
}
