package book_test

import (
	"encoding/binary"
	"math/rand"
	"slices"
	"strings"
	"testing"

	"potbank/api"
	"potbank/book"
)

type half = [api.Half]byte

func entry(house, no int) api.Entry { return api.Entry{House: house, No: no} }

// note returns a record that withdraws nothing.
func note(house, no, kind, known int, text string) api.Record {
	return api.Record{At: entry(house, no), Kind: kind, Day: known / 2, Known: known, Text: text}
}

func withdrawal(house, no, known, of int) api.Record {
	return api.Record{At: entry(house, no), Known: known, Of: entry(house, of)}
}

// bent is the record of the chapter's examples.
func bent() api.Record {
	return api.Record{At: entry(2, 0), Kind: 5, Day: 10, Known: 12, Text: "bent 1000"}
}

func bookOf(l ...api.Record) api.Book { return api.Book{Records: l} }

// isSame compares values of one type in which nil and empty lists are the same.
func isSame(v, w any) bool {
	switch x := v.(type) {
	case api.Book:
		return slices.Equal(x.Records, w.(api.Book).Records)
	case api.Disk:
		y := w.(api.Disk)
		return slices.Equal(x.Pages, y.Pages) && slices.Equal(x.Wait, y.Wait)
	case api.Ledger:
		y := w.(api.Ledger)
		return isSame(x.Book, y.Book) && x.Area == y.Area && x.Epoch == y.Epoch && x.Used == y.Used
	case api.House:
		y := w.(api.House)
		return x.Me == y.Me && isSame(x.Disk, y.Disk) && isSame(x.Ledger, y.Ledger) && x.Known == y.Known
	case api.Slip:
		y := w.(api.Slip)
		return x.From == y.From && x.To == y.To && x.Have == y.Have && slices.Equal(x.Records, y.Records)
	}
	return false
}

// must returns what a call tells that has no error.
func must[T any](v T, e api.Errno) T {
	if e != api.OK {
		panic(e)
	}
	return v
}

// store is a disk with its ledger.
type store struct {
	disk   api.Disk
	ledger api.Ledger
}

func newStore() store {
	d, l := book.New()
	return store{d, l}
}

func append1(s store, r api.Record) (store, api.Errno) {
	d, l, e := book.Append(s.disk, s.ledger, r)
	return store{d, l}, e
}

// appended returns a store with more records, whose writes wait.
func appended(s store, l ...api.Record) store {
	for _, r := range l {
		s = must(append1(s, r))
	}
	return s
}

func synced(s store) store { return store{book.Sync(s.disk), s.ledger} }

func open(d api.Disk) (store, api.Errno) {
	d, l, e := book.Open(d)
	return store{d, l}, e
}

func crashed(s store, picks ...int) store { return must(open(book.Crash(s.disk, picks))) }

func packed(s store) store {
	ways, l, e := book.Pack(s.disk, s.ledger)
	return store{must(ways[len(ways)-1], e), l}
}

// copyOf returns an equal disk that shares no memory with d.
func copyOf(d api.Disk) api.Disk {
	return api.Disk{Pages: slices.Clone(d.Pages), Wait: slices.Clone(d.Wait)}
}

// The chapter's definitions follow, each read by itself.

func isIn(n, lo, hi int) bool { return lo <= n && n <= hi }

func isEntry(x api.Entry) bool { return isIn(x.House, 0, 5) && isIn(x.No, 0, 9999) }

func isRecord(r api.Record) bool {
	if strings.ContainsFunc(r.Text, func(c rune) bool { return c < 0x20 || c > 0x7e }) || len(r.Text) > 200 {
		return false
	}
	if !isEntry(r.At) || !isIn(r.Kind, 0, 40) || !isIn(r.Day, 0, 100000) || !isIn(r.Known, 0, 100000) {
		return false
	}
	if r.Kind > 0 {
		return r.Of == entry(0, 0)
	}
	return r.Day == 0 && r.Text == "" && isEntry(r.Of) && r.Of.House == r.At.House && r.Of.No < r.At.No
}

func isBook(b api.Book) bool {
	next := map[int]int{}
	for i, r := range b.Records {
		if !isRecord(r) || i > 0 && r.At.House < b.Records[i-1].At.House || r.At.No != next[r.At.House] {
			return false
		}
		next[r.At.House]++
	}
	return len(b.Records) <= 60
}

func inOrder(b api.Book) api.Book {
	l := slices.Clone(b.Records)
	slices.SortStableFunc(l, func(r, s api.Record) int { return 10000*(r.At.House-s.At.House) + r.At.No - s.At.No })
	return bookOf(l...)
}

// doesStand is the chapter's definition, among what is known on a day.
func doesStand(b api.Book, at api.Entry, known int) bool {
	for _, r := range b.Records {
		if r.Kind == 0 && r.Known <= known && r.Of == at && doesStand(b, r.At, known) {
			return false
		}
	}
	return true
}

func bytesOf(r api.Record) []byte {
	b := []byte{byte(r.At.House)}
	b = binary.BigEndian.AppendUint16(b, uint16(r.At.No))
	b = append(b, byte(r.Kind))
	b = binary.BigEndian.AppendUint32(b, uint32(r.Day))
	b = binary.BigEndian.AppendUint32(b, uint32(r.Known))
	b = append(b, byte(r.Of.House))
	b = binary.BigEndian.AppendUint16(b, uint16(r.Of.No))
	b = append(b, byte(len(r.Text)))
	return append(b, r.Text...)
}

func headOf(epoch, count int) half {
	return half{0: 'h', 1: byte(epoch / 65536), 2: byte(epoch / 256), 3: byte(epoch), 4: byte(count / 256), 5: byte(count), 31: 165}
}

func partsOf(r api.Record, number, epoch int) []half {
	b := bytesOf(r)
	var l []half
	for len(b) > 0 {
		h := half{0: 'p', 1: byte(epoch / 65536), 2: byte(epoch / 256), 3: byte(epoch), 4: byte(number / 256), 5: byte(number), 6: byte(len(l)), 31: 165}
		n := min(len(b), 23)
		copy(h[8:], b[:n])
		b = b[n:]
		l = append(l, h)
	}
	for i := range l {
		l[i][7] = byte(len(l))
	}
	return l
}

// numberIn returns the epoch in the bytes of a half, whatever it is.
func numberIn(h half) int { return 65536*int(h[1]) + 256*int(h[2]) + int(h[3]) }

// epochOf returns the epoch that a half is of; 0 if it is of none.
func epochOf(h half) int {
	if e := numberIn(h); (h[0] == 104 || h[0] == 112) && h[31] == 165 && e <= 1000000 {
		return e
	}
	return 0
}

func halfAt(d api.Disk, area, i int) *half { return &d.Pages[301*area+i/2][i%2] }

// recordAt looks for the record, in any number of parts, that stands in an area from a half on.
func recordAt(d api.Disk, area, at, number int) (r api.Record, epoch, many int) {
	epoch = epochOf(*halfAt(d, area, at))
	var b []byte
	for many = 1; at+many <= 602 && many <= 10; many++ {
		var l []half
		for i := range many {
			l = append(l, *halfAt(d, area, at+i))
		}
		b = append(b, l[many-1][8:31]...)
		r, e := book.Decode(b[:min(len(b), 16+int(b[15]))])
		if e == api.OK && epoch > 0 && slices.Equal(l, partsOf(r, number, epoch)) {
			return r, epoch, many
		}
	}
	return api.Record{}, 0, 0
}

// journalOf returns what the journal of an area has, its records in order, and the epoch of its head; 0 if it does not count.
func journalOf(d api.Disk, area int) (api.Ledger, int) {
	head := *halfAt(d, area, 0)
	epoch, count := numberIn(head), 256*int(head[4])+int(head[5])
	l := api.Ledger{Area: area, Used: 1}
	last := epoch
	for {
		r, e, many := recordAt(d, area, l.Used, len(l.Book.Records))
		more := inOrder(bookOf(append(slices.Clone(l.Book.Records), r)...))
		if many == 0 || e < last || !isBook(more) {
			break
		}
		l.Book, last = more, e
		l.Used += many
	}
	if head != headOf(epoch, count) || epoch == 0 || epoch > 1000000 || len(l.Book.Records) < count {
		return api.Ledger{}, 0
	}
	return l, epoch
}

// lookAt returns the ledger of a disk, with the least Epoch that it may have, and the one that it has behind a failure; false if no area counts.
func lookAt(d api.Disk) (l api.Ledger, reopened int, counts bool) {
	d = copyOf(d)
	for _, w := range d.Wait {
		d.Pages[w.At] = w.Page
	}
	l, one := journalOf(d, 0)
	if l1, two := journalOf(d, 1); two > one {
		l, one = l1, two
	}
	for area := range 2 {
		for i := range 602 {
			epoch := epochOf(*halfAt(d, area, i))
			reopened = max(reopened, epoch+1)
			l.Epoch = max(l.Epoch, epoch)
			if area == l.Area && i >= l.Used && epoch > 0 {
				l.Epoch = max(l.Epoch, epoch+1)
			}
		}
	}
	return l, reopened, one > 0
}

// isLedger is the chapter's definition.
func isLedger(d api.Disk, l api.Ledger) bool {
	if len(d.Pages) != 602 || len(d.Wait) > 1200 || slices.ContainsFunc(d.Wait, func(w api.Write) bool { return !isIn(w.At, 0, 601) }) {
		return false
	}
	is, _, counts := lookAt(d)
	if !counts || !isIn(l.Epoch, is.Epoch, 1000000) {
		return false
	}
	is.Epoch = l.Epoch
	return isSame(l, is)
}

// checkStore compares a store with the chapter's definition.
func checkStore(t *testing.T, s store) {
	t.Helper()
	if book.CheckLedger(s.disk, s.ledger) != api.OK || !isLedger(s.disk, s.ledger) {
		t.Fatal("no ledger of its disk", s.ledger)
	}
}

// Random records follow.

// lengths are those of texts whose records have as many bytes as a number of pieces, or one more, and of the shortest and the longest ones.
func lengths() []int { return []int{0, 1, 6, 7, 8, 30, 31, 190, 191, 199, 200} }

func someText(r *rand.Rand) string {
	many := r.Intn(40)
	if r.Intn(3) == 0 {
		many = lengths()[r.Intn(len(lengths()))]
	}
	b := make([]byte, many)
	for i := range b {
		b[i] = byte(0x20 + r.Intn(0x5f))
	}
	return string(b)
}

// someRecord returns a random valid record of an entry.
func someRecord(r *rand.Rand, at api.Entry) api.Record {
	if at.No > 0 && r.Intn(4) == 0 {
		return withdrawal(at.House, at.No, r.Intn(8), at.No-1-r.Intn(min(at.No, 4)))
	}
	known := r.Intn(8)
	if r.Intn(9) == 0 {
		known = 100000 - r.Intn(70000)
	}
	x := note(at.House, at.No, 1+r.Intn(40), known, someText(r))
	x.Day = r.Intn(100001)
	return x
}

// someBook returns a random valid book of so many records of so many houses.
func someBook(r *rand.Rand, many, houses int) api.Book {
	var l []api.Record
	var next [6]int
	first := r.Intn(6)
	for range many {
		house := (first + r.Intn(houses)) % 6
		l = append(l, someRecord(r, entry(house, next[house])))
		next[house]++
	}
	return inOrder(bookOf(l...))
}

// anyOrder returns the records of a book in an order in which the numbers of a house rise.
func anyOrder(r *rand.Rand, b api.Book) []api.Record {
	l := slices.Clone(b.Records)
	r.Shuffle(len(l), func(i, k int) { l[i], l[k] = l[k], l[i] })
	var next [6]int
	for i := range l {
		house := l[i].At.House
		n := slices.IndexFunc(b.Records, func(x api.Record) bool { return x.At == entry(house, next[house]) })
		l[i] = b.Records[n]
		next[house]++
	}
	return l
}
