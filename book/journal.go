package book

import (
	"iter"
	"slices"

	"potbank/api"
	"potbank/limits"
)

const areas = 2

// journal is an area of a valid disk on which no writes wait.
type journal struct {
	api.Disk
	area int
}

// pages returns those of the area.
func (j journal) pages() []api.Page {
	at := j.area * api.AreaPages
	return j.Pages[at : at+api.AreaPages]
}

// halves returns those of the area, in order.
func (j journal) halves() []half {
	l := make([]half, 0, 2*api.AreaPages)
	for _, p := range j.pages() {
		l = append(l, p[:]...)
	}
	return l
}

// records yields the records that the area has, in the order in which they were written.
func (j journal) records() iter.Seq[written] {
	return func(yield func(x written) bool) {
		l := j.halves()
		epoch := epochOf(l[0])
		l = l[1:]
		var many [api.MaxHouses]int
		for number := range api.MaxRecords {
			x, isThere := readParts(l, number)
			at := x.record.At
			// Parts of an earlier epoch were left behind by what was tried ahead of a failure.
			if !isThere || x.epoch < epoch || at.No != many[at.House] || !yield(x) {
				return
			}
			many[at.House]++
			l, epoch = l[x.many:], x.epoch
		}
	}
}

// ledger returns the ledger of the area, but for the Epoch, which is that of its head; false if it does not count.
func (j journal) ledger() (api.Ledger, bool) {
	head := j.pages()[0][0]
	count, isHead := readHead(head)
	if !isHead {
		return api.Ledger{}, false
	}
	l := api.Ledger{Area: j.area, Epoch: epochOf(head), Used: 1}
	for x := range j.records() {
		l.Book.Records = append(l.Book.Records, x.record)
		l.Used += x.many
	}
	isWhole := len(l.Book.Records) >= count
	slices.SortFunc(l.Book.Records, compareRecords)
	return l, isWhole
}

// meant returns the ledger of the area that is meant, of a valid disk on which no writes wait; false if no area counts.
func meant(d api.Disk) (api.Ledger, bool) {
	var newer api.Ledger
	for area := range areas {
		l, counts := journal{d, area}.ledger()
		if counts && l.Epoch > newer.Epoch {
			newer = l
		}
	}
	return newer, newer.Epoch > 0
}

func isLedger(d api.Disk, l api.Ledger) bool {
	if !isDisk(d) {
		return false
	}
	d = Sync(d)
	is, counts := meant(d)
	if !counts {
		return false
	}
	behind := newest(journal{d, is.Area}.pages(), is.Used)
	least := max(newest(d.Pages, 0), behind+1)
	return l.Area == is.Area && l.Used == is.Used && limits.IsBetween(l.Epoch, least, api.MaxEpoch) &&
		slices.Equal(l.Book.Records, is.Book.Records)
}

// CheckLedger returns OK if l is the ledger of d, and otherwise ErrDisk.
func CheckLedger(d api.Disk, l api.Ledger) api.Errno {
	return limits.Unless(isLedger(d, l), api.ErrDisk)
}

// Open returns what a disk has: the disk with all waiting writes made, and its ledger.
func Open(d api.Disk) (api.Disk, api.Ledger, api.Errno) {
	if !isDisk(d) {
		return api.Disk{}, api.Ledger{}, api.ErrDisk
	}
	d = Sync(d)
	l, counts := meant(d)
	if !counts {
		return api.Disk{}, api.Ledger{}, api.ErrArea
	}
	l.Epoch = newest(d.Pages, 0) + 1
	if !isEpoch(l.Epoch) {
		return api.Disk{}, api.Ledger{}, api.ErrLong
	}
	return d, l, api.OK
}
