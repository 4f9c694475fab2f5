package clay

import (
	"iter"
	"slices"

	"potbank/api"
	"potbank/limits"
)

// none stands for the greatest number of an arc that has none. It is more than all arcs together carry that have one, and more than any stock can be.
const none = (api.MaxMoves + api.MaxAccounts*api.MaxTurns + 1) * api.MaxGrams

func least(n int, others ...int) int {
	for _, other := range others {
		n = min(n, other)
	}
	return n
}

func greatest(n int, others ...int) int {
	for _, other := range others {
		n = max(n, other)
	}
	return n
}

// arc goes from one stock to another one; its range has the least and the greatest that it may carry. Outside is the zero Stock.
type arc struct {
	from, to api.Stock
	api.Range
}

// stockOf returns the stock of an account at the end of a day; outside, of the account 0, has no days.
func stockOf(account, day int) api.Stock {
	if account == 0 {
		return api.Stock{}
	}
	return api.Stock{Account: account, Day: day}
}

// net is a valid store with its stocks, by account and day.
type net struct {
	api.Store
	stocks []api.Stock
}

// netOf returns the net of a valid store on days, among which are its own.
func netOf(s api.Store, days []int) net {
	n := net{Store: s}
	for account := 1; account < s.Accounts; account++ {
		for _, day := range days {
			n.stocks = append(n.stocks, stockOf(account, day))
		}
	}
	return n
}

// checkedNet returns the net of a store on its days; ErrStore if it is not valid.
func checkedNet(s api.Store) (net, api.Errno) {
	if e := checkStore(s); e != api.OK {
		return net{}, e
	}
	return netOf(s, days(s)), api.OK
}

// kept returns the least and the greatest that the counts allow a stock to be.
func (n net) kept(x api.Stock) api.Range {
	var los, his []int
	for _, c := range n.Counts {
		if stockOf(c.Account, c.Day) == x {
			los, his = append(los, c.Weight.Lo), append(his, c.Weight.Hi)
		}
	}
	return api.Range{Lo: greatest(0, los...), Hi: least(none, his...)}
}

// next returns where the keeping of the stock with an index goes.
func (n net) next(i int) api.Stock {
	if i+1 < len(n.stocks) && n.stocks[i+1].Account == n.stocks[i].Account {
		return n.stocks[i+1]
	}
	return api.Stock{}
}

// arcs yields the arcs of a net, by their indices: its moves, and then for each stock its keeping.
func (n net) arcs() iter.Seq2[int, arc] {
	return func(yield func(int, arc) bool) {
		for i, m := range n.Moves {
			if !yield(i, arc{stockOf(m.From, m.Day), stockOf(m.To, m.Day), m.Weight}) {
				return
			}
		}
		for i, x := range n.stocks {
			if !yield(len(n.Moves)+i, arc{x, n.next(i), n.kept(x)}) {
				return
			}
		}
	}
}

// arcOf returns the index of the arc that carries a weight; false if it is no weight of the store.
func (n net) arcOf(w api.What) (int, bool) {
	if w.Move != -1 {
		return w.Move, limits.IsBetween(w.Move, 0, len(n.Moves)-1) && w.Stock == api.Stock{}
	}
	i := slices.Index(n.stocks, w.Stock)
	return len(n.Moves) + i, i >= 0
}
