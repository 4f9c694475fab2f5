package desk_test

import (
	"cmp"
	"fmt"
	"strings"

	"potbank/api"
	"potbank/bung"
	"potbank/clay"
	"potbank/heat"
	"potbank/pay"
	"potbank/plan"
	"potbank/saggar"
	"potbank/trial"
)

// rowOf returns a list in one line.
func rowOf(l []int) string {
	if len(l) == 0 {
		return "none"
	}
	return strings.Trim(fmt.Sprint(l), "[]")
}

// rowsOf returns a line for each row.
func rowsOf(rows [][]int) string {
	var l []string
	for _, row := range rows {
		l = append(l, rowOf(row))
	}
	if l == nil {
		return "none"
	}
	return strings.Join(l, "\n")
}

// rows turns the elements of a list into rows.
func rows[T any](l []T, e api.Errno, of func(v T) []int) (string, api.Errno) {
	var all [][]int
	for _, v := range l {
		all = append(all, of(v))
	}
	return rowsOf(all), e
}

// listed is what a call tells that returns a list.
func listed(l []int, e api.Errno) (string, api.Errno) { return rowOf(l), e }

func ranged(r api.Range, e api.Errno) (string, api.Errno) { return fmt.Sprint(r.Lo, " ", r.Hi), e }

func counted(n int, e api.Errno) (string, api.Errno) { return fmt.Sprint(n), e }

// opined is what a call tells that returns an answer.
func opined(n int, e api.Errno) (string, api.Errno) {
	return map[int]string{0: "no", 1: "yes", 2: "maybe"}[n], e
}

// reckon answers the queries of what was set up.
func (k *clerk) reckon(word string, n []int) (string, api.Errno) {
	s := k.setting
	switch word {
	case "packed":
		l, e := saggar.Pack(s.Wares, s.Box, s.Items)
		var text []string
		for _, x := range l {
			text = append(text, fmt.Sprint(x.Y, " ", x.X, map[bool]string{true: " turned"}[x.Turned]))
		}
		return cmp.Or(strings.Join(text, "\n"), "none"), e
	case "refuse":
		r, e := saggar.Refuse(s.Wares, s.Box, s.Items)
		return fmt.Sprint(r.Kind, " ", rowOf(r.Items)), e
	case "bung":
		order, e := bung.Rule(s.Saggars)
		if e != api.OK {
			return "", e
		}
		b, e := bung.Set(s.Wad, s.Saggars, order)
		if e != api.OK {
			return "", e
		}
		text, e := opined(bung.Fits(b, s.Spot))
		return rowOf(order) + "\n" + text, e
	case "bungs":
		l, e := bung.Fewest(s.Wad, s.Saggars, s.Spot)
		return rowsOf(l), e
	case "plan":
		p, e := plan.Fewest(s.Seats, s.Orders)
		return rowsOf(p.Firings), e
	case "reason":
		l, e := plan.Reason(s.Seats, s.Orders, n[0])
		return rowsOf(l), e
	case "weight":
		return ranged(clay.Bound(s.Store, api.What{Move: n[0]}))
	case "stock":
		return ranged(clay.Bound(s.Store, api.What{Move: -1, Stock: api.Stock{Account: n[0], Day: n[1]}}))
	case "uneven":
		return listed(clay.Conflict(s.Store))
	}
	return cutOut(s.Store, n)
}

func cutOut(store api.Store, n []int) (string, api.Errno) {
	if n[1] != 0 && n[1] != 1 {
		return "", api.ErrArg
	}
	w := api.What{Move: n[0]}
	r, e := clay.Bound(store, w)
	if e != api.OK {
		return "", e
	}
	text := fmt.Sprint("bound ", []int{r.Lo, r.Hi}[n[1]])
	for _, x := range must(clay.Prove(store, w, n[1] == 1)).Stocks {
		text += fmt.Sprint("\nstock ", x.Account, " ", x.Day)
	}
	return text, api.OK
}

// look answers the queries of a house.
func (k *clerk) look(word string, n []int) (string, api.Errno) {
	if word == "counts" {
		var l []string
		for _, h := range k.houses {
			l = append(l, fmt.Sprint("records ", len(h.Ledger.Book.Records)))
		}
		return strings.Join(l, "\n"), api.OK
	}
	s := k.shop(n[0])
	w, l := s.Wares, s.Events
	switch word {
	case "heat":
		return ranged(trial.Heat(l, n[1], n[2], n[3]))
	case "prove":
		return proved(l, n)
	case "conflict":
		b, e := trial.Batch(l, n[1], n[2])
		if e != api.OK {
			return "", e
		}
		return listed(heat.Conflict(b.Firing))
	case "verdict":
		return opined(trial.Verdict(w, l, n[1], n[2]))
	case "verdicts":
		text := "none"
		judged, e := trial.Verdicts(w, l, n[1], n[2])
		for i, j := range judged {
			one, _ := opined(j.Verdict, api.OK)
			one = fmt.Sprint(j.Piece, " ", one)
			if text += "\n" + one; i == 0 {
				text = one
			}
		}
		return text, e
	case "together":
		return opined(trial.Together(w, l, n[1], n[2]))
	case "changed":
		return listed(trial.Changed(w, l, n[1], n[2]))
	case "recalls":
		return listed(trial.Recalls(w, l, n[1], n[2]))
	case "moved":
		return listed(trial.Moved(w, l, entry(n[2], n[3]), n[1]))
	case "rests":
		rests, e := trial.Rests(w, l, n[1], n[2])
		return rows(rests, e, func(x api.Entry) []int { return []int{x.House, x.No} })
	}
	return reckoned(s, word, n)
}

func proved(l []api.Event, n []int) (string, api.Errno) {
	if n[4] != 0 && n[4] != 1 {
		return "", api.ErrArg
	}
	r, e := trial.Heat(l, n[1], n[2], n[3])
	if e != api.OK {
		return "", e
	}
	p := must(heat.Prove(must(trial.Batch(l, n[1], n[3])).Firing, n[2], n[4] == 1))
	return fmt.Sprint("bound ", []int{r.Lo, r.Hi}[n[4]], "\nproof ", rowOf(append([]int{p.Reading}, p.By...))), api.OK
}

// reckoned answers the queries of pay.
func reckoned(s api.Shop, word string, n []int) (string, api.Errno) {
	switch word {
	case "due":
		maker, fireman, e := pay.Due(s, n[1], n[2])
		return fmt.Sprint(maker, " ", fireman), e
	case "outcome":
		return counted(pay.Outcome(s, n[1], n[2]))
	case "balance":
		return counted(pay.Balance(s, n[1], n[2]))
	case "share":
		return listed(pay.Share(s, n[1], n[2]))
	case "unsettled":
		return listed(pay.Unsettled(s, n[1]))
	}
	posts, e := pay.Posts(s, n[1])
	return rows(posts, e, func(p api.Post) []int { return []int{p.Known, p.Piece, p.From, p.To, p.Amount} })
}
