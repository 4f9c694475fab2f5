package pay

import (
	"cmp"
	"maps"
	"slices"

	"potbank/api"
	"potbank/limits"
)

// dates returns the days on which something of a shop gets known or no longer counts, rising, each once.
func dates(s api.Shop) []int {
	var days []int
	for _, x := range s.Events {
		days = append(days, x.Known)
	}
	claims := slices.Clone(s.Claims)
	for _, x := range s.Works {
		claims = append(claims, claimOf(x))
	}
	for _, c := range claims {
		days = append(days, c.Known)
		if c.Until != 0 {
			days = append(days, c.Until)
		}
	}
	slices.Sort(days)
	return slices.Compact(days)
}

// others returns the pieces, rising, of which two days, or shops, tell something else. What is made has a maker, so that it has other facts than what is not.
func others(a, b map[int]facts) []int {
	pieces := slices.AppendSeq(slices.Collect(maps.Keys(a)), maps.Keys(b))
	slices.Sort(pieces)
	return slices.DeleteFunc(slices.Compact(pieces), func(piece int) bool { return a[piece] == b[piece] })
}

// owed returns what the master owes a maker for a piece.
func (x facts) owed(maker int) int {
	if x.maker != maker {
		return 0
	}
	return x.due.maker
}

// postsOf returns the postings of a day for a piece, whose amounts are not 0.
func postsOf(day, piece int, was, is facts) []api.Post {
	var l []api.Post
	for maker := 1; maker <= api.MaxMaker; maker++ {
		l = append(l, api.Post{Known: day, Piece: piece, From: api.Master, To: api.Fireman + maker, Amount: is.owed(maker) - was.owed(maker)})
	}
	l = append(l, api.Post{Known: day, Piece: piece, From: api.Fireman, To: api.Master, Amount: is.due.fireman - was.due.fireman})
	return slices.DeleteFunc(l, func(p api.Post) bool { return p.Amount == 0 })
}

// send sends the postings up to a day, and then closes the channel. On a day that is none of dates nothing changes.
func (o office) send(known int, posts chan<- api.Post) {
	defer close(posts)
	var was map[int]facts
	for _, day := range dates(o.Shop) {
		if day > known {
			return
		}
		is := o.on(day)
		for _, piece := range others(was, is) {
			for _, p := range postsOf(day, piece, was[piece], is[piece]) {
				posts <- p
			}
		}
		was = is
	}
}

// sum returns the sum of what a function tells of the elements of a list.
func sum[T any](l []T, of func(v T) int) int {
	n := 0
	for _, v := range l {
		n += of(v)
	}
	return n
}

// Dates returns the days on which something of a shop gets known or no longer counts, rising, each once.
func Dates(s api.Shop) ([]int, api.Errno) {
	if e := Check(s); e != api.OK {
		return nil, e
	}
	return dates(s), api.OK
}

// posted returns the postings of a valid shop up to a day.
func posted(s api.Shop, known int) []api.Post {
	posts := make(chan api.Post)
	go officeOf(s).send(known, posts)
	var l []api.Post
	for p := range posts {
		l = append(l, p)
	}
	return l
}

// Posts returns the postings up to a day.
func Posts(s api.Shop, known int) ([]api.Post, api.Errno) {
	if e := checkDay(s, known); e != api.OK {
		return nil, e
	}
	return posted(s, known), api.OK
}

// CheckPosts returns OK for the postings up to a day, and otherwise ErrPosts.
func CheckPosts(s api.Shop, known int, l []api.Post) api.Errno {
	if e := checkDay(s, known); e != api.OK {
		return e
	}
	return limits.Unless(slices.Equal(l, posted(s, known)), api.ErrPosts)
}

// Corrected returns the postings of a day.
func Corrected(s api.Shop, known int) ([]api.Post, api.Errno) {
	l, e := Posts(s, known)
	return slices.DeleteFunc(l, func(p api.Post) bool { return p.Known != known }), e
}

// Balance returns what a party has been paid up to a day, less what it paid.
func Balance(s api.Shop, party, known int) (int, api.Errno) {
	isParty := limits.IsBetween(party, api.Master, api.Fireman+api.MaxMaker)
	if e := cmp.Or(Check(s), limits.Unless(isParty, api.ErrParty), limits.Unless(limits.IsDay(known), api.ErrDay)); e != api.OK {
		return 0, e
	}
	return sum(posted(s, known), func(p api.Post) int {
		switch party {
		case p.To:
			return p.Amount
		case p.From:
			return -p.Amount
		}
		return 0
	}), api.OK
}

// Paid returns what a maker has been paid for a piece up to a day.
func Paid(s api.Shop, maker, piece, known int) (int, api.Errno) {
	if e := checkNumber(s, isMaker(maker) && limits.IsPiece(piece), known); e != api.OK {
		return 0, e
	}
	return sum(posted(s, known), func(p api.Post) int {
		if p.Piece == piece && p.To == api.Fireman+maker {
			return p.Amount
		}
		return 0
	}), api.OK
}
