package clay

import (
	"slices"

	"potbank/api"
)

// inside has the stocks of a cut.
type inside map[api.Stock]bool

func (c inside) goesIn(a arc) bool { return c[a.to] && !c[a.from] }

func (c inside) goesOut(a arc) bool { return c[a.from] && !c[a.to] }

// insideOf returns the stocks of a cut; false if it is not valid for a net.
func (n net) insideOf(c api.Cut) (inside, bool) {
	in := inside{}
	for _, x := range c.Stocks {
		if in[x] || !slices.Contains(n.stocks, x) {
			return nil, false
		}
		in[x] = true
	}
	return in, true
}

// cutAround returns the cut between the stocks that a search reached and the others: of both sides the one where outside is not. If no search was held up, it has no stocks.
func (n net) cutAround(reached map[api.Stock]step) api.Cut {
	_, outside := reached[api.Stock{}]
	var c api.Cut
	for _, x := range n.stocks {
		if _, is := reached[x]; is != outside {
			c.Stocks = append(c.Stocks, x)
		}
	}
	return c
}

// crossing returns what the arcs that go into a cut carry together, and those that go out, but for the arc with an index, which it returns too. Hi is at least none if that of one of them is.
func (n net) crossing(c inside, but int) (in, out api.Range, one arc) {
	for i, a := range n.arcs() {
		switch {
		case i == but:
			one = a
		case c.goesIn(a):
			in = api.Range{Lo: in.Lo + a.Lo, Hi: in.Hi + a.Hi}
		case c.goesOut(a):
			out = api.Range{Lo: out.Lo + a.Lo, Hi: out.Hi + a.Hi}
		}
	}
	return in, out, one
}

// shows reports whether a cut shows that the arc with an index carries at most so much, if high is true, and otherwise at least so much.
func (n net) shows(c inside, i int, high bool, much int) bool {
	in, out, a := n.crossing(c, i)
	// The arc carries what some arcs carry together, less what others carry beside it.
	var all, others api.Range
	switch {
	case len(c) == 0:
		all = a.Range
	case c.goesIn(a):
		all, others = out, in
	case c.goesOut(a):
		all, others = in, out
	default:
		return false
	}
	if high {
		return all.Hi < none && all.Hi-others.Lo <= much
	}
	return others.Hi < none && all.Lo-others.Hi >= much
}

// isUneven reports whether a cut is uneven.
func (n net) isUneven(c inside) bool {
	in, out, _ := n.crossing(c, -1)
	return in.Hi < out.Lo || out.Hi < in.Lo
}

// isClosed reports whether a cut has one stock alone, of which the counts leave nothing.
func (n net) isClosed(c api.Cut) bool {
	if len(c.Stocks) != 1 {
		return false
	}
	kept := n.kept(c.Stocks[0])
	return kept.Lo > kept.Hi
}

// Prove returns a cut that shows that a weight of an even store is at most the greatest of Bound, if high is true, and otherwise at least the least.
func Prove(s api.Store, w api.What, high bool) (api.Cut, api.Errno) {
	g, e := weigh(s, w)
	if e != api.OK {
		return api.Cut{}, e
	}
	return g.cutAround(g.push(g.lane, high)), api.OK
}

// CheckCut returns OK if a cut shows that a weight is at most so much, if high is true, and otherwise at least so much; otherwise ErrTold.
func CheckCut(s api.Store, w api.What, high bool, n int, c api.Cut) api.Errno {
	all, e := checkedNet(s)
	if e != api.OK {
		return e
	}
	i, is := all.arcOf(w)
	if !is {
		return api.ErrAccount
	}
	in, is := all.insideOf(c)
	if !is {
		return api.ErrCut
	}
	if !all.shows(in, i, high, n) {
		return api.ErrTold
	}
	return api.OK
}

// Uneven returns a cut of a store that is not even that CheckUneven accepts; ErrNone if it is even.
func Uneven(s api.Store) (api.Cut, api.Errno) {
	n, e := checkedNet(s)
	if e != api.OK {
		return api.Cut{}, e
	}
	_, c, is := n.even()
	if is {
		return api.Cut{}, api.ErrNone
	}
	return c, api.OK
}

// CheckUneven returns OK if a cut is uneven, or has one stock alone, of which the counts leave nothing; otherwise ErrTold.
func CheckUneven(s api.Store, c api.Cut) api.Errno {
	n, e := checkedNet(s)
	if e != api.OK {
		return e
	}
	in, is := n.insideOf(c)
	if !is {
		return api.ErrCut
	}
	if !n.isUneven(in) && !n.isClosed(c) {
		return api.ErrTold
	}
	return api.OK
}
