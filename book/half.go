package book

import (
	"cmp"
	"slices"

	"potbank/api"
	"potbank/limits"
)

const (
	headMark = 'h' // the first byte of a head
	partMark = 'p' // the first byte of a part
	lastMark = 165 // the last byte of both
	pieceAt  = 8   // where a part has its piece of a record
	pieceLen = 23
)

type half = [api.Half]byte

func isEpoch(epoch int) bool { return limits.IsBetween(epoch, 1, api.MaxEpoch) }

// marked returns the half with a first byte, with what stands behind it, and bytes 0 up to the last one.
func marked(mark byte, behind []byte) half {
	h := half{mark}
	h[api.Half-1] = lastMark
	copy(h[1:api.Half-1], behind)
	return h
}

// headOf returns the head of an epoch and a count.
func headOf(epoch, count int) half {
	var w writer
	w.put(epoch, 3)
	w.put(count, 2)
	return marked(headMark, w.bytes)
}

// partsOf returns the parts of a valid record.
func partsOf(r api.Record, number, epoch int) []half {
	b := bytesOf(r)
	many := (len(b) + pieceLen - 1) / pieceLen
	parts := make([]half, many)
	for i := range parts {
		var w writer
		w.put(epoch, 3)
		w.put(number, 2)
		w.put(i, 1)
		w.put(many, 1)
		parts[i] = marked(partMark, append(w.bytes, b[i*pieceLen:]...))
	}
	return parts
}

// epochOf returns the epoch that a half is of; 0 if it is of none.
func epochOf(h half) int {
	in := reader{h[1:]}
	epoch := in.number(3)
	if (h[0] == headMark || h[0] == partMark) && h[api.Half-1] == lastMark && isEpoch(epoch) {
		return epoch
	}
	return 0
}

// newest returns the greatest epoch that a half of pages is of, from the half at on; 0 if there is none.
func newest(pages []api.Page, at int) int {
	epoch := 0
	for i := at; i < 2*len(pages); i++ {
		epoch = max(epoch, epochOf(pages[i/2][i%2]))
	}
	return epoch
}

// readHead returns the count of a head; false if the half is no head of an epoch.
func readHead(h half) (int, bool) {
	epoch := epochOf(h)
	in := reader{h[4:]}
	count := in.number(2)
	return count, epoch > 0 && h == headOf(epoch, count)
}

// written is a record as a journal has it: in parts of an epoch, so many.
type written struct {
	record      api.Record
	epoch, many int
}

// readParts returns the record whose parts, with a number, a list of halves begins with; false if there is none.
func readParts(l []half, number int) (x written, isThere bool) {
	defer func() { isThere = recover() == nil }()
	start := first(l, 1)[0]
	x.epoch, x.many = epochOf(start), int(start[pieceAt-1])
	l = first(l, x.many)
	var in reader
	for _, h := range l {
		in.rest = append(in.rest, h[pieceAt:api.Half-1]...)
	}
	x.record = in.record()
	if !slices.Equal(l, partsOf(x.record, number, x.epoch)) {
		panic(wrongBytes{})
	}
	return x, true
}

// Halves returns the parts of a record with a number, in an epoch.
func Halves(r api.Record, number, epoch int) ([][api.Half]byte, api.Errno) {
	isOne := limits.IsBetween(number, 0, api.MaxRecords-1) && isEpoch(epoch)
	if e := cmp.Or(CheckRecord(r), limits.Unless(isOne, api.ErrArg)); e != api.OK {
		return nil, e
	}
	return partsOf(r, number, epoch), api.OK
}
