// Package limits tells whether numbers and ranges, of all layers, keep to the limits that the document names.
package limits

import "potbank/api"

// IsBetween reports whether a number is from lo to hi.
func IsBetween(n, lo, hi int) bool { return lo <= n && n <= hi }

// IsRange reports whether a range has a number, and all of its numbers are from lo to hi.
func IsRange(r api.Range, lo, hi int) bool { return lo <= r.Lo && r.Lo <= r.Hi && r.Hi <= hi }
