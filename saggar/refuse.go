package saggar

import (
	"slices"

	"potbank/api"
	"potbank/parts"
)

func area(feet []api.Foot) int {
	n := 0
	for _, f := range feet {
		n += f.Wide * f.Deep
	}
	return n
}

func weight(feet []api.Foot) int {
	n := 0
	for _, f := range feet {
		n += f.Weight
	}
	return n
}

// isTrouble reports whether a kind of reasons keeps items from a packing.
// Where some items have trouble, more of them have it too, and no items have none: a reason is items with trouble, of which none can be left out.
// An item that is too high, or too wide, is trouble by itself: reasons of these kinds have one item.
func isTrouble(kind int, s api.Box, feet []api.Foot) bool {
	switch kind {
	case api.TooHigh:
		return slices.ContainsFunc(feet, func(f api.Foot) bool { return f.High > s.High })
	case api.TooWide:
		return slices.ContainsFunc(feet, func(f api.Foot) bool { return !hasStand(s, f) })
	case api.TooHeavy:
		return weight(feet) > s.Bears
	case api.TooMuch:
		return area(feet) > s.Wide*s.Deep
	case api.TooTight:
		return !fits(s, feet)
	}
	return false
}

// hasPlainTrouble reports whether items have trouble that is seen without a search.
func hasPlainTrouble(s api.Box, feet []api.Foot) bool {
	for kind := api.TooHigh; kind < api.TooTight; kind++ {
		if isTrouble(kind, s, feet) {
			return true
		}
	}
	return false
}

// chosen returns what some items need, by their indices.
func chosen(feet []api.Foot, items []int) []api.Foot {
	some := make([]api.Foot, 0, len(items))
	for _, i := range items {
		some = append(some, feet[i])
	}
	return some
}

// Refuse returns a reason of the least kind why items do not fit; ErrNone if there is a packing.
func Refuse(w api.Wares, s api.Box, l []api.Item) (api.Refusal, api.Errno) {
	feet, e := Feet(w, s, l)
	if e != api.OK {
		return api.Refusal{}, e
	}
	for kind := api.TooHigh; kind <= api.TooTight; kind++ {
		if isTrouble(kind, s, feet) {
			return api.Refusal{Kind: kind, Items: needed(kind, s, feet)}, api.OK
		}
	}
	return api.Refusal{}, api.ErrNone
}

// needed leaves out, from the last one to the first, each item without which there still is trouble.
// Of items that are too high, or too wide, it keeps the first one.
func needed(kind int, s api.Box, feet []api.Foot) []int {
	items := make([]int, len(feet))
	for i := range items {
		items[i] = i
	}
	for i := len(items) - 1; i >= 0; i-- {
		if rest := without(items, i); isTrouble(kind, s, chosen(feet, rest)) {
			items = rest
		}
	}
	return items
}

// CheckRefusal returns OK if r is a reason why items do not fit, and otherwise ErrRefusal.
func CheckRefusal(w api.Wares, s api.Box, l []api.Item, r api.Refusal) api.Errno {
	feet, e := Feet(w, s, l)
	if e != api.OK {
		return e
	}
	if !parts.IsSet(r.Items, len(l)) || !isTrouble(r.Kind, s, chosen(feet, r.Items)) {
		return api.ErrRefusal
	}
	for i := range r.Items {
		if isTrouble(r.Kind, s, chosen(feet, without(r.Items, i))) {
			return api.ErrRefusal
		}
	}
	return api.OK
}

// Most returns how many items like one have a packing, but at most MaxItems; ErrNone if one has none.
func Most(w api.Wares, s api.Box, x api.Item) (int, api.Errno) {
	f, e := Foot(w, s, x)
	if e != api.OK {
		return 0, e
	}
	many := 0
	for many < api.MaxItems && fits(s, slices.Repeat([]api.Foot{f}, many+1)) {
		many++
	}
	if many == 0 {
		return 0, api.ErrNone
	}
	return many, api.OK
}
