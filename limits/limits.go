// Package limits tells whether numbers, ranges and entries, of all layers, keep to the limits that the document names.
package limits

import "potbank/api"

// IsBetween reports whether a number is from lo to hi.
func IsBetween(n, lo, hi int) bool { return lo <= n && n <= hi }

// IsRange reports whether a range has a number, and all of its numbers are from lo to hi.
func IsRange(r api.Range, lo, hi int) bool { return lo <= r.Lo && r.Lo <= r.Hi && r.Hi <= hi }

// IsDay reports whether there is such a day.
func IsDay(day int) bool { return IsBetween(day, 0, api.MaxDay) }

// IsSource reports whether a source may have this number.
func IsSource(source int) bool { return IsBetween(source, 1, api.MaxSource) }

// IsPiece reports whether a piece may have this number.
func IsPiece(piece int) bool { return IsBetween(piece, 1, api.MaxPiece) }

// ArePieces reports whether one event, work or claim may be of so many pieces, from the first one on.
func ArePieces(first, many int) bool {
	return IsPiece(first) && IsBetween(many, 1, api.MaxMany) && IsPiece(first+many-1)
}

// IsEntry reports whether a record may have this place in the books.
func IsEntry(x api.Entry) bool {
	return IsBetween(x.House, 0, api.MaxHouses-1) && IsBetween(x.No, 0, api.MaxNo)
}

// IsAhead reports whether a record may have the place x, in the book of the same house as y and ahead of it.
func IsAhead(x, y api.Entry) bool { return IsEntry(x) && x.House == y.House && x.No < y.No }

// Unless returns OK if something is so, and otherwise an error. Of several of these cmp.Or is the first one that is not OK.
func Unless(is bool, e api.Errno) api.Errno {
	if is {
		return api.OK
	}
	return e
}
