package clay

import (
	"slices"

	"potbank/api"
)

// even returns a stream of a flow that agrees with a net; false, and a cut that shows it, if none does.
func (n net) even() (stream, api.Cut, bool) {
	f := streamOf(n)
	for _, l := range f.lanes {
		if l.Lo > l.Hi {
			return stream{}, api.Cut{Stocks: []api.Stock{l.from}}, false
		}
	}
	for _, l := range f.lanes {
		if reached := f.drive(l.along(), l.Lo-l.carried); reached != nil {
			return stream{}, n.cutAround(reached), false
		}
	}
	return f, api.Cut{}, true
}

func isEven(s api.Store) bool {
	_, _, is := netOf(s, days(s)).even()
	return is
}

// weighing is an even net with a flow that agrees, and the lane that carries a weight.
type weighing struct {
	net
	stream
	lane *lane
}

// weigh returns the weighing of a weight; ErrAccount if it is none of the net, ErrUneven if the net is not even.
func (n net) weigh(w api.What) (weighing, api.Errno) {
	i, is := n.arcOf(w)
	if !is {
		return weighing{}, api.ErrAccount
	}
	f, _, is := n.even()
	if !is {
		return weighing{}, api.ErrUneven
	}
	return weighing{n, f, f.lanes[i]}, api.OK
}

// weigh is that of nets, for a store that need not be valid.
func weigh(s api.Store, w api.What) (weighing, api.Errno) {
	n, e := checkedNet(s)
	if e != api.OK {
		return weighing{}, e
	}
	return n.weigh(w)
}

// bound returns the least and the greatest that the weight is.
func (g weighing) bound() api.Range {
	g.push(g.lane, false)
	lo := g.lane.carried
	g.push(g.lane, true)
	return api.Range{Lo: lo, Hi: g.lane.carried}
}

// Even reports whether some flow agrees with a store.
func Even(s api.Store) (bool, api.Errno) {
	if e := checkStore(s); e != api.OK {
		return false, e
	}
	return isEven(s), api.OK
}

// Bound returns the least and the greatest that a weight is in all flows that agree with an even store.
func Bound(s api.Store, w api.What) (api.Range, api.Errno) {
	g, e := weigh(s, w)
	if e != api.OK {
		return api.Range{}, e
	}
	return g.bound(), api.OK
}

// Attain returns a flow that agrees with an even store in which a weight is the greatest of Bound, if high is true, and otherwise the least.
func Attain(s api.Store, w api.What, high bool) (api.Flow, api.Errno) {
	g, e := weigh(s, w)
	if e != api.OK {
		return api.Flow{}, e
	}
	g.push(g.lane, high)
	var f api.Flow
	for _, l := range g.lanes[:len(s.Moves)] {
		f.Weights = append(f.Weights, l.carried)
	}
	return f, api.OK
}

// Moves returns the sources, rising, without each of which alone Bound of a weight of an even store is another range.
func Moves(s api.Store, w api.What) ([]int, api.Errno) {
	g, e := weigh(s, w)
	if e != api.OK {
		return nil, e
	}
	bound, all := g.bound(), days(s)
	return slices.DeleteFunc(sources(s), func(source int) bool {
		// On a day of which nobody tells any more, each stock is what it was on the one before; so all days can stay. And the store stays even.
		rest, _ := netOf(without(s, source), all).weigh(w)
		return rest.bound() == bound
	}), api.OK
}
