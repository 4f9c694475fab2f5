package desk

import (
	"slices"

	"potbank/api"
	"potbank/book"
)

// underWay is the answer of what puts slips under way, or takes them.
func (a doing) underWay() []string { return one("slips", len(a.slips)) }

// records is the answer of what a house does with its disk.
func (a doing) records(house int) []string { return one("records", len(a.book(house).Records)) }

// picked returns the index of the slip that the command chooses.
func (a doing) picked() int {
	many := len(a.slips)
	ask(many > 0, api.ErrNone)
	return (a.Args[0]%many + many) % many
}

// taken returns the slip that the command chooses; it is no longer under way.
func (a doing) taken() api.Slip {
	i := a.picked()
	s := a.slips[i]
	a.slips = slices.Delete(a.slips, i, i+1)
	return s
}

func (a doing) offer() []string {
	var to int
	house := a.readOf(&to)
	h, s, e := book.Offer(a.houses[house], to)
	must(e)
	a.slips = added(a.slips, s, api.MaxSlips)
	a.houses[house] = h
	return a.underWay()
}

// deliver takes a slip that is gone even if it is refused.
func (a doing) deliver() []string {
	s := a.taken()
	h, answers, e := book.Receive(a.houses[s.To], s)
	must(e)
	a.houses[s.To] = h
	a.slips = append(a.slips, answers...)
	return a.underWay()
}

func (a doing) lose() []string {
	a.taken()
	return a.underWay()
}

func (a doing) double() []string {
	s := a.slips[a.picked()]
	a.slips = added(a.slips, s, api.MaxSlips)
	return a.underWay()
}

func (a doing) restart() []string {
	picks := make([]int, 2)
	house := a.readOf(&picks[0], &picks[1])
	a.houses[house] = sure(book.Restart(a.houses[house], picks))
	return a.records(house)
}

func (a doing) pack() []string {
	house := a.readOf()
	h := &a.houses[house]
	disks, l, e := book.Pack(h.Disk, h.Ledger)
	must(e)
	h.Disk, h.Ledger = disks[len(disks)-1], l
	return a.records(house)
}
