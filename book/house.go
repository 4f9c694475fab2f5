package book

import (
	"cmp"

	"potbank/api"
	"potbank/limits"
)

func isHouseNumber(n int) bool { return limits.IsBetween(n, 0, api.MaxHouses-1) }

// areCounts reports whether a book may have so many records of the houses.
func areCounts(many [api.MaxHouses]int) bool {
	for _, n := range many {
		if !limits.IsBetween(n, 0, api.MaxRecords) {
			return false
		}
	}
	return true
}

func isHouse(h api.House) bool {
	for _, many := range h.Known {
		if !areCounts(many) {
			return false
		}
	}
	return isHouseNumber(h.Me) && isLedger(h.Disk, h.Ledger)
}

func isSlip(s api.Slip) bool {
	if len(s.Records) > api.MaxSlip {
		return false
	}
	for _, r := range s.Records {
		if !isRecord(r) {
			return false
		}
	}
	return isHouseNumber(s.From) && isHouseNumber(s.To) && s.From != s.To && areCounts(s.Have)
}

func checkHouse(h api.House) api.Errno { return limits.Unless(isHouse(h), api.ErrHouse) }

// wrote returns a house that put a record into its journal.
func wrote(h api.House, r api.Record) (api.House, api.Errno) {
	var e api.Errno
	h.Disk, h.Ledger, e = Append(h.Disk, h.Ledger, r)
	if e != api.OK {
		return api.House{}, e
	}
	return h, api.OK
}

// synced returns a house on whose disk no writes wait.
func synced(h api.House) api.House {
	h.Disk = Sync(h.Disk)
	h.Ledger.Book = copied(h.Ledger.Book)
	return h
}

// NewHouse returns a house that has no records.
func NewHouse(me int) (api.House, api.Errno) {
	if !isHouseNumber(me) {
		return api.House{}, api.ErrArg
	}
	h := api.House{Me: me}
	h.Disk, h.Ledger = New()
	return h, api.OK
}

// Note writes a record of the house's own, with its next number.
func Note(h api.House, r api.Record) (api.House, api.Record, api.Errno) {
	if e := checkHouse(h); e != api.OK {
		return api.House{}, api.Record{}, e
	}
	r.At = api.Entry{House: h.Me, No: have(h.Ledger.Book)[h.Me]}
	h, e := wrote(h, r)
	if e != api.OK {
		return api.House{}, api.Record{}, e
	}
	return h, r, api.OK
}

// unknown returns the first records of a book that a house is not known to have, of which it has so many of each house.
func unknown(b api.Book, many [api.MaxHouses]int) []api.Record {
	var l []api.Record
	for _, r := range b.Records {
		if r.At.No >= many[r.At.House] && len(l) < api.MaxSlip {
			l = append(l, r)
		}
	}
	return l
}

// Offer makes a slip for another house.
func Offer(h api.House, to int) (api.House, api.Slip, api.Errno) {
	isOther := isHouseNumber(to) && to != h.Me
	if e := cmp.Or(checkHouse(h), limits.Unless(isOther, api.ErrArg)); e != api.OK {
		return api.House{}, api.Slip{}, e
	}
	// What a slip tells must not be lost by a failure behind it.
	h = synced(h)
	b := h.Ledger.Book
	return h, api.Slip{From: h.Me, To: to, Have: have(b), Records: unknown(b, h.Known[to])}, api.OK
}

// took returns a house that put the records of a slip into its journal, but those whose house's earlier ones are not there.
func took(h api.House, l []api.Record) (api.House, api.Errno) {
	for _, r := range l {
		if r.At.No > have(h.Ledger.Book)[r.At.House] {
			continue
		}
		var e api.Errno
		if h, e = wrote(h, r); e != api.OK {
			return api.House{}, e
		}
	}
	return h, api.OK
}

// Receive takes a slip; if that has records, it returns an answer to it.
func Receive(h api.House, s api.Slip) (api.House, []api.Slip, api.Errno) {
	isMine := isSlip(s) && s.To == h.Me
	if e := cmp.Or(checkHouse(h), limits.Unless(isMine, api.ErrSlip)); e != api.OK {
		return api.House{}, nil, e
	}
	h, e := took(h, s.Records)
	if e != api.OK {
		return api.House{}, nil, e
	}
	h = synced(h)
	for house, many := range s.Have {
		h.Known[s.From][house] = max(h.Known[s.From][house], many)
	}
	if len(s.Records) == 0 {
		return h, nil, api.OK
	}
	return h, []api.Slip{{From: h.Me, To: s.From, Have: have(h.Ledger.Book)}}, api.OK
}

// Restart returns the house behind a failure of the power.
func Restart(h api.House, picks []int) (api.House, api.Errno) {
	if e := checkHouse(h); e != api.OK {
		return api.House{}, e
	}
	d, l, e := Open(Crash(h.Disk, picks))
	if e != api.OK {
		return api.House{}, e
	}
	return api.House{Me: h.Me, Disk: d, Ledger: l}, api.OK
}
