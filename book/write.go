package book

import (
	"cmp"

	"potbank/api"
	"potbank/limits"
)

// writes returns those that put halves into the area, from the half at on: one for each page of which halves are changed.
func (j journal) writes(at int, halves []half) []api.Write {
	var l []api.Write
	for i, h := range halves {
		page, n := j.area*api.AreaPages+(at+i)/2, (at+i)%2
		if len(l) == 0 || l[len(l)-1].At != page {
			l = append(l, api.Write{At: page, Page: j.Pages[page]})
		}
		l[len(l)-1].Page[n] = h
	}
	return l
}

// Append puts a record into the journal; both are returned as they are if the book has it.
func Append(d api.Disk, l api.Ledger, r api.Record) (api.Disk, api.Ledger, api.Errno) {
	if e := CheckLedger(d, l); e != api.OK {
		return api.Disk{}, api.Ledger{}, e
	}
	b, e := Add(l.Book, r)
	if e != api.OK {
		return api.Disk{}, api.Ledger{}, e
	}
	var parts []half
	if number := len(l.Book.Records); len(b.Records) > number {
		parts = partsOf(r, number, l.Epoch)
	}
	d = waiting(d, journal{Sync(d), l.Area}.writes(l.Used, parts))
	if len(d.Wait) > api.MaxWait {
		return api.Disk{}, api.Ledger{}, api.ErrLong
	}
	return d, api.Ledger{Book: b, Area: l.Area, Epoch: l.Epoch, Used: l.Used + len(parts)}, api.OK
}

// Pack writes the journal anew, into the other area; it returns the disks on the way, and the ledger at the end.
func Pack(d api.Disk, l api.Ledger) ([]api.Disk, api.Ledger, api.Errno) {
	if e := cmp.Or(CheckLedger(d, l), limits.Unless(l.Epoch < api.MaxEpoch, api.ErrLong)); e != api.OK {
		return nil, api.Ledger{}, e
	}
	l = api.Ledger{Book: copied(l.Book), Area: areas - 1 - l.Area, Epoch: l.Epoch + 1}
	var parts []half
	for number, r := range l.Book.Records {
		parts = append(parts, partsOf(r, number, l.Epoch)...)
	}
	l.Used = 1 + len(parts)
	head := headOf(l.Epoch, len(l.Book.Records))
	// The head is written when all parts are safe, so that the area does not count ahead of them.
	old := Sync(d)
	filling := waiting(old, journal{old, l.Area}.writes(1, parts))
	filled := Sync(filling)
	heading := waiting(filled, journal{filled, l.Area}.writes(0, []half{head}))
	return []api.Disk{old, filling, filled, heading, Sync(heading)}, l, api.OK
}
