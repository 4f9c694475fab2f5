package clay

import (
	"slices"

	"potbank/api"
	"potbank/limits"
)

// isFlow reports whether a flow is one of a store.
func isFlow(s api.Store, f api.Flow) bool {
	if len(f.Weights) != len(s.Moves) {
		return false
	}
	for i, m := range s.Moves {
		if !limits.IsBetween(f.Weights[i], m.Weight.Lo, m.Weight.Hi) {
			return false
		}
	}
	return true
}

// stockIn returns what a stock is in a flow.
func stockIn(s api.Store, f api.Flow, x api.Stock) int {
	stock := 0
	for i, m := range s.Moves {
		if m.Day > x.Day {
			continue
		}
		switch x.Account {
		case m.To:
			stock += f.Weights[i]
		case m.From:
			stock -= f.Weights[i]
		}
	}
	return stock
}

// checkedFlow returns the net of a store; ErrStore if it is not valid, ErrFlow if the flow is not one of it.
func checkedFlow(s api.Store, f api.Flow) (net, api.Errno) {
	n, e := checkedNet(s)
	if e == api.OK && !isFlow(s, f) {
		return net{}, api.ErrFlow
	}
	return n, e
}

// Stock returns the stock of an account at the end of a day in a flow.
func Stock(s api.Store, f api.Flow, account, day int) (int, api.Errno) {
	n, e := checkedFlow(s, f)
	if e != api.OK {
		return 0, e
	}
	x := api.Stock{Account: account, Day: day}
	if !slices.Contains(n.stocks, x) {
		return 0, api.ErrAccount
	}
	return stockIn(s, f, x), api.OK
}

// CheckFlow returns OK if a flow agrees with a store, and otherwise ErrFlow.
func CheckFlow(s api.Store, f api.Flow) api.Errno {
	n, e := checkedFlow(s, f)
	if e != api.OK {
		return e
	}
	for _, x := range n.stocks {
		kept := n.kept(x)
		if !limits.IsBetween(stockIn(s, f, x), kept.Lo, kept.Hi) {
			return api.ErrFlow
		}
	}
	return api.OK
}
