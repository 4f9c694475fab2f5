package clay_test

import (
	"iter"
	"math/rand"
	"slices"

	"potbank/api"
	"potbank/clay"
	"potbank/probe"
)

var (
	span         = probe.Span
	wrongNumbers = probe.WrongNumbers
	wrongRanges  = probe.WrongRanges
)

func move(source, day, from, to, lo, hi int) api.Move {
	return api.Move{Source: source, Day: day, From: from, To: to, Weight: span(lo, hi)}
}

func count(source, day, account, lo, hi int) api.Count {
	return api.Count{Source: source, Day: day, Account: account, Weight: span(lo, hi)}
}

func stock(account, day int) api.Stock { return api.Stock{Account: account, Day: day} }

func moved(i int) api.What { return api.What{Move: i} }

func kept(account, day int) api.What { return api.What{Move: -1, Stock: stock(account, day)} }

func cut(stocks ...api.Stock) api.Cut { return api.Cut{Stocks: stocks} }

func flow(weights ...int) api.Flow { return api.Flow{Weights: weights} }

// storeS is S of the chapter's examples, with more counts.
func storeS(more ...api.Count) api.Store {
	return api.Store{
		Accounts: 3,
		Moves:    []api.Move{move(1, 1, 0, 1, 100, 110), move(2, 2, 1, 2, 0, 200), move(3, 3, 2, 0, 40, 50)},
		Counts:   append([]api.Count{count(4, 2, 1, 20, 25), count(5, 3, 2, 30, 60)}, more...),
	}
}

// unevenS is the store of the chapter's example that is not even.
func unevenS() api.Store { return storeS(count(6, 2, 2, 0, 70)) }

func isSame(x, y api.Store) bool {
	return x.Accounts == y.Accounts && slices.Equal(x.Moves, y.Moves) && slices.Equal(x.Counts, y.Counts)
}

func isNone(s api.Store) bool { return isSame(s, api.Store{}) }

// daysOf returns the days on which something is told of a store, rising.
func daysOf(s api.Store) []int {
	var days []int
	for day := range 100 {
		isMove := slices.ContainsFunc(s.Moves, func(m api.Move) bool { return m.Day == day })
		if isMove || slices.ContainsFunc(s.Counts, func(c api.Count) bool { return c.Day == day }) {
			days = append(days, day)
		}
	}
	return days
}

func stocksOf(s api.Store) []api.Stock {
	var stocks []api.Stock
	for account := 1; account < s.Accounts; account++ {
		for _, day := range daysOf(s) {
			stocks = append(stocks, stock(account, day))
		}
	}
	return stocks
}

func whatsOf(s api.Store) []api.What {
	var whats []api.What
	for i := range s.Moves {
		whats = append(whats, moved(i))
	}
	for _, x := range stocksOf(s) {
		whats = append(whats, kept(x.Account, x.Day))
	}
	return whats
}

// heapsOf plays the moves of a flow day by day, and returns what is in each account at the end of each day.
func heapsOf(s api.Store, f api.Flow) map[api.Stock]int {
	heaps := map[api.Stock]int{}
	in := make([]int, s.Accounts)
	for _, day := range daysOf(s) {
		for i, m := range s.Moves {
			if m.Day == day {
				in[m.From] -= f.Weights[i]
				in[m.To] += f.Weights[i]
			}
		}
		for account := 1; account < s.Accounts; account++ {
			heaps[stock(account, day)] = in[account]
		}
	}
	return heaps
}

// agrees is the chapter's definition, for a flow of so many weights.
func agrees(s api.Store, f api.Flow) bool {
	for i, m := range s.Moves {
		if f.Weights[i] < m.Weight.Lo || f.Weights[i] > m.Weight.Hi {
			return false
		}
	}
	heaps := heapsOf(s, f)
	for _, n := range heaps {
		if n < 0 {
			return false
		}
	}
	for _, c := range s.Counts {
		if n := heaps[stock(c.Account, c.Day)]; n < c.Weight.Lo || n > c.Weight.Hi {
			return false
		}
	}
	return true
}

func weightIn(s api.Store, f api.Flow, w api.What) int {
	if w.Move >= 0 {
		return f.Weights[w.Move]
	}
	return heapsOf(s, f)[w.Stock]
}

// flowsOf yields all flows that agree with a store, but for those in which a move weighs more than most.
func flowsOf(s api.Store, most int) iter.Seq[api.Flow] {
	return func(yield func(api.Flow) bool) {
		weights := make([]int, len(s.Moves))
		var choose func(i int) bool
		choose = func(i int) bool {
			if i == len(weights) {
				return !agrees(s, flow(weights...)) || yield(flow(slices.Clone(weights)...))
			}
			for n := s.Moves[i].Weight.Lo; n <= min(most, s.Moves[i].Weight.Hi); n++ {
				weights[i] = n
				if !choose(i + 1) {
					return false
				}
			}
			return true
		}
		choose(0)
	}
}

// isEvenOf tells by all flows whether a store is even.
func isEvenOf(s api.Store, most int) bool {
	for range flowsOf(s, most) {
		return true
	}
	return false
}

// someStores makes random stores with at most so many of each; weights are at most heavy, and wide apart at most.
type someStores struct {
	r                                      *rand.Rand
	accounts, days, moves, counts, sources int
	heavy, wide                            int
}

func (x someStores) weight() api.Range {
	lo := x.r.Intn(x.heavy + 1)
	return span(lo, lo+x.r.Intn(x.wide+1))
}

func (x someStores) move(accounts int) api.Move {
	ends := x.r.Perm(accounts)
	return api.Move{Source: 1 + x.r.Intn(x.sources), Day: x.r.Intn(x.days), From: ends[0], To: ends[1], Weight: x.weight()}
}

func (x someStores) count(accounts int) api.Count {
	return api.Count{Source: 1 + x.r.Intn(x.sources), Day: x.r.Intn(x.days), Account: 1 + x.r.Intn(accounts-1), Weight: x.weight()}
}

func (x someStores) store() api.Store {
	s := api.Store{Accounts: 2 + x.r.Intn(x.accounts-1)}
	for range x.r.Intn(x.moves + 1) {
		s.Moves = append(s.Moves, x.move(s.Accounts))
	}
	for range x.r.Intn(x.counts + 1) {
		s.Counts = append(s.Counts, x.count(s.Accounts))
	}
	return s
}

// smalls returns what makes stores few enough of whose flows agree for all of them to be gone through.
func smalls(seed int64) someStores {
	return someStores{r: rand.New(rand.NewSource(seed)), accounts: 4, days: 4, moves: 5, counts: 3, sources: 5, heavy: 3, wide: 2}
}

// someBig returns a store of up to all that may be, with weights of all sizes, and a flow that agrees with it.
func someBig(r *rand.Rand) (api.Store, api.Flow) {
	s := api.Store{Accounts: 2 + r.Intn(api.MaxAccounts-1)}
	var f api.Flow
	days := r.Perm(api.MaxTurns)[:1+r.Intn(api.MaxTurns)]
	slices.Sort(days)
	in := make([]int, s.Accounts)
	heavy := []int{5, 1000, api.MaxGrams}[r.Intn(3)]
	around := func(n int) api.Range {
		wide := []int{0, heavy / 5, heavy, api.MaxGrams}[r.Intn(4)]
		return span(max(0, n-r.Intn(wide+1)), min(api.MaxGrams, n+r.Intn(wide+1)))
	}
	for _, day := range days {
		for range r.Intn(1 + api.MaxMoves/len(days)) {
			ends := r.Perm(s.Accounts)
			n := r.Intn(heavy + 1)
			if ends[0] != 0 {
				n = min(n, in[ends[0]])
			}
			in[ends[0]] -= n
			in[ends[1]] += n
			m := api.Move{Source: 1 + r.Intn(50), Day: day, From: ends[0], To: ends[1], Weight: around(n)}
			s.Moves = append(s.Moves, m)
			f.Weights = append(f.Weights, n)
		}
		for range r.Intn(1 + api.MaxCounts/len(days)) {
			if account := 1 + r.Intn(s.Accounts-1); in[account] <= api.MaxGrams {
				c := api.Count{Source: 1 + r.Intn(50), Day: day, Account: account, Weight: around(in[account])}
				s.Counts = append(s.Counts, c)
			}
		}
	}
	// Neither need be told day by day.
	r.Shuffle(len(s.Moves), func(i, j int) {
		s.Moves[i], s.Moves[j] = s.Moves[j], s.Moves[i]
		f.Weights[i], f.Weights[j] = f.Weights[j], f.Weights[i]
	})
	r.Shuffle(len(s.Counts), func(i, j int) { s.Counts[i], s.Counts[j] = s.Counts[j], s.Counts[i] })
	return s, f
}

// limb is an arc of the chapter's definition; it is open if it has no greatest number. Outside is stock(0, 0).
type limb struct {
	from, to api.Stock
	lo, hi   int
	open     bool
}

func end(account, day int) api.Stock {
	if account == 0 {
		return stock(0, 0)
	}
	return stock(account, day)
}

// limbsOf returns the arcs of a store, in the order of whatsOf.
func limbsOf(s api.Store) []limb {
	var limbs []limb
	for _, m := range s.Moves {
		limbs = append(limbs, limb{from: end(m.From, m.Day), to: end(m.To, m.Day), lo: m.Weight.Lo, hi: m.Weight.Hi})
	}
	days := daysOf(s)
	for _, x := range stocksOf(s) {
		l := limb{from: x, open: true}
		if later := slices.Index(days, x.Day) + 1; later < len(days) {
			l.to = stock(x.Account, days[later])
		}
		for _, c := range s.Counts {
			if stock(c.Account, c.Day) != x {
				continue
			}
			l.lo = max(l.lo, c.Weight.Lo)
			if l.open || c.Weight.Hi < l.hi {
				l.hi = c.Weight.Hi
			}
			l.open = false
		}
		limbs = append(limbs, l)
	}
	return limbs
}

// sums returns what the arcs with some indices carry together at least and at most; false if the latter is not known.
func sums(limbs []limb, indices []int) (lo, hi int, closed bool) {
	closed = true
	for _, i := range indices {
		lo += limbs[i].lo
		hi += limbs[i].hi
		closed = closed && !limbs[i].open
	}
	return lo, hi, closed
}

// across returns the indices of the arcs that go into a cut, and of those that go out, but one.
func across(limbs []limb, c api.Cut, but int) (in, out []int) {
	for i, l := range limbs {
		from, to := slices.Contains(c.Stocks, l.from), slices.Contains(c.Stocks, l.to)
		if i != but && to && !from {
			in = append(in, i)
		}
		if i != but && from && !to {
			out = append(out, i)
		}
	}
	return in, out
}

// shown returns the number of which a cut shows that the arc i is at most, or at least, so much; false if it shows nothing.
func shown(limbs []limb, c api.Cut, i int, high bool) (int, bool) {
	if len(c.Stocks) == 0 {
		if high {
			return limbs[i].hi, !limbs[i].open
		}
		return limbs[i].lo, true
	}
	in, out := across(limbs, c, i)
	isFrom, isTo := slices.Contains(c.Stocks, limbs[i].from), slices.Contains(c.Stocks, limbs[i].to)
	if isFrom == isTo {
		return 0, false
	}
	if isTo { // it goes in
		in, out = out, in
	}
	lo, hi, closed := sums(limbs, in)
	otherLo, otherHi, otherClosed := sums(limbs, out)
	if high {
		return hi - otherLo, closed
	}
	return lo - otherHi, otherClosed
}

// isShownUneven is the chapter's definition of what CheckUneven accepts.
func isShownUneven(s api.Store, c api.Cut) bool {
	limbs := limbsOf(s)
	in, out := across(limbs, c, -1)
	inLo, inHi, inClosed := sums(limbs, in)
	outLo, outHi, outClosed := sums(limbs, out)
	if inClosed && inHi < outLo || outClosed && outHi < inLo {
		return true
	}
	if len(c.Stocks) != 1 {
		return false
	}
	l := limbs[len(s.Moves)+slices.Index(stocksOf(s), c.Stocks[0])]
	return !l.open && l.lo > l.hi
}

// bound asks the package for a range.
func bound(s api.Store, w api.What) api.Range {
	r, _ := clay.Bound(s, w)
	return r
}

func isEven(s api.Store) bool {
	is, _ := clay.Even(s)
	return is
}
