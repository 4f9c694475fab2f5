package desk

import (
	"potbank/api"
	"potbank/bung"
	"potbank/clay"
	"potbank/lines"
	"potbank/plan"
	"potbank/saggar"
)

// standing returns the line of a stand.
func standing(s api.Stand) string {
	line := lines.Row(s.Y, s.X)
	if s.Turned {
		line += " turned"
	}
	return line
}

func (a doing) packed() []string {
	s := a.setting
	return each(sure(saggar.Pack(s.Wares, s.Box, s.Items)), standing)
}

func (a doing) refuse() []string {
	s := a.setting
	r := sure(saggar.Refuse(s.Wares, s.Box, s.Items))
	return []string{lines.Row(append([]int{r.Kind}, r.Items...)...)}
}

func (a doing) bung() []string {
	s := a.setting
	order := sure(bung.Rule(s.Saggars))
	b := sure(bung.Set(s.Wad, s.Saggars, order))
	fits := sure(bung.Fits(b, s.Spot))
	return []string{list(order), opinion(fits)}
}

func (a doing) bungs() []string {
	s := a.setting
	return each(sure(bung.Fewest(s.Wad, s.Saggars, s.Spot)), list)
}

func (a doing) plan() []string {
	return each(sure(plan.Fewest(a.setting.Seats, a.setting.Orders)).Firings, list)
}

func (a doing) reason() []string {
	return each(sure(plan.Reason(a.setting.Seats, a.setting.Orders, a.Args[0])), list)
}

func (a doing) weight() []string {
	return []string{span(sure(clay.Bound(a.setting.Store, api.What{Move: a.Args[0]})))}
}

func (a doing) stock() []string {
	w := api.What{Move: -1}
	a.read(&w.Stock.Account, &w.Stock.Day)
	return []string{span(sure(clay.Bound(a.setting.Store, w)))}
}

// weighed returns the weight that the command asks for, and the end of its range that is to be shown.
func (a doing) weighed() (w api.What, high bool, n int) {
	var side int
	a.read(&w.Move, &side)
	high = isHigh(side)
	return w, high, endOf(sure(clay.Bound(a.setting.Store, w)), high)
}

func (a doing) cut() []string {
	w, high, n := a.weighed()
	answer := one("bound", n)
	for _, s := range sure(clay.Prove(a.setting.Store, w, high)).Stocks {
		answer = append(answer, lines.Line("stock", s.Account, s.Day))
	}
	return answer
}

// showsCut reports whether lines tell a cut that shows what `cut` tells.
func (a doing) showsCut(said []string) bool {
	w, high, n := a.weighed()
	var c api.Cut
	for _, line := range said {
		numbers, ok := readBehind("stock", line)
		if !ok || len(numbers) != 2 {
			return false
		}
		c.Stocks = append(c.Stocks, api.Stock{Account: numbers[0], Day: numbers[1]})
	}
	return clay.CheckCut(a.setting.Store, w, high, n, c) == api.OK
}

func (a doing) uneven() []string { return []string{list(sure(clay.Conflict(a.setting.Store)))} }

func (a doing) counts() []string {
	return each(a.houses[:], func(h api.House) string { return lines.Line("records", len(h.Ledger.Book.Records)) })
}
