package book_test

import (
	"math"
	"math/rand"
	"slices"
	"testing"

	"potbank/api"
	"potbank/book"
	"potbank/probe"
)

// args are all that the functions of the package take.
type args struct {
	record        api.Record
	bytes         []byte
	book, other   api.Book
	at            api.Entry
	known         int
	number, epoch int
	disk          api.Disk
	ledger        api.Ledger
	house         api.House
	me, to        int
	slip          api.Slip
	picks         []int
}

type call = probe.Call[args]

func isNone[T any](v T) bool {
	var none T
	return isSame(v, none)
}

func recordCalls() []call {
	one := []api.Errno{api.ErrRecord}
	return []call{
		probe.Of("CheckRecord", one, func(x args) probe.Told { return probe.Error(book.CheckRecord(x.record)) }),
		probe.Of("Encode", one, func(x args) probe.Told { return probe.List(book.Encode(x.record)) }),
		probe.Of("Decode", one, func(x args) probe.Told { return probe.Value(book.Decode(x.bytes)) }),
		probe.Of("Halves", []api.Errno{api.ErrRecord, api.ErrArg}, func(x args) probe.Told { return probe.List(book.Halves(x.record, x.number, x.epoch)) }),
	}
}

func bookCalls() []call {
	add := []api.Errno{api.ErrBook, api.ErrRecord, api.ErrTwo, api.ErrGap, api.ErrLong}
	join := []api.Errno{api.ErrBook, api.ErrTwo, api.ErrLong}
	return []call{
		probe.Of("Check", add[:1], func(x args) probe.Told { return probe.Error(book.Check(x.book)) }),
		probe.Of("Add", add, func(x args) probe.Told { return probe.By(isNone[api.Book])(book.Add(x.book, x.record)) }),
		probe.Of("Join", join, func(x args) probe.Told { return probe.By(isNone[api.Book])(book.Join(x.book, x.other)) }),
		probe.Of("Join of the others", join, func(x args) probe.Told { return probe.By(isNone[api.Book])(book.Join(x.other, x.book)) }),
		probe.Of("Have", add[:1], func(x args) probe.Told { return probe.Value(book.Have(x.book)) }),
		probe.Of("Stands", []api.Errno{api.ErrBook, api.ErrNone}, func(x args) probe.Told { return probe.Value(book.Stands(x.book, x.at)) }),
		probe.Of("Standing", []api.Errno{api.ErrBook, api.ErrDay}, func(x args) probe.Told { return probe.List(book.Standing(x.book, x.known)) }),
	}
}

func diskCalls() []call {
	add := []api.Errno{api.ErrDisk, api.ErrRecord, api.ErrTwo, api.ErrGap, api.ErrLong}
	return []call{
		probe.Of("CheckLedger", add[:1], func(x args) probe.Told { return probe.Error(book.CheckLedger(x.disk, x.ledger)) }),
		probe.Of("Append", add, func(x args) probe.Told {
			d, l, e := book.Append(x.disk, x.ledger, x.record)
			return probe.Told{Zero: isNone(d) && isNone(l), Error: e}
		}),
		probe.Of("Pack", []api.Errno{api.ErrDisk, api.ErrLong}, func(x args) probe.Told {
			ways, l, e := book.Pack(x.disk, x.ledger)
			return probe.Told{Zero: len(ways) == 0 && isNone(l), Error: e}
		}),
	}
}

func houseCalls() []call {
	return []call{
		probe.Of("NewHouse", []api.Errno{api.ErrArg}, func(x args) probe.Told { return probe.By(isNone[api.House])(book.NewHouse(x.me)) }),
		probe.Of("Note", []api.Errno{api.ErrHouse, api.ErrRecord, api.ErrLong}, func(x args) probe.Told {
			h, r, e := book.Note(x.house, x.record)
			return probe.Told{Zero: isNone(h) && r == api.Record{}, Error: e}
		}),
		probe.Of("Offer", []api.Errno{api.ErrHouse, api.ErrArg}, func(x args) probe.Told {
			h, s, e := book.Offer(x.house, x.to)
			return probe.Told{Zero: isNone(h) && isNone(s), Error: e}
		}),
		probe.Of("Receive", []api.Errno{api.ErrHouse, api.ErrSlip, api.ErrTwo, api.ErrLong}, func(x args) probe.Told {
			h, l, e := book.Receive(x.house, x.slip)
			return probe.Told{Zero: isNone(h) && len(l) == 0, Error: e}
		}),
		probe.Of("Restart", []api.Errno{api.ErrHouse}, func(x args) probe.Told { return probe.By(isNone[api.House])(book.Restart(x.house, x.picks)) }),
	}
}

func openCalls() []call {
	return []call{probe.Of("Open", []api.Errno{api.ErrDisk, api.ErrArea, api.ErrLong}, func(x args) probe.Told {
		d, l, e := book.Open(x.disk)
		return probe.Told{Zero: isNone(d) && isNone(l), Error: e}
	})}
}

func allCalls() []call { return slices.Concat(recordCalls(), bookCalls(), diskCalls(), houseCalls()) }

func right() args {
	b := bookOf(note(2, 0, 1, 1, "a"), note(2, 1, 2, 2, "b"), note(4, 0, 3, 3, "c"))
	s := appended(newStore(), b.Records...)
	r := note(2, 2, 5, 5, "d")
	return args{
		record: r, bytes: bytesOf(r), book: b, other: bookOf(b.Records[:2]...), at: entry(2, 1), epoch: 1, disk: s.disk, ledger: s.ledger,
		house: api.House{Me: 2, Disk: s.disk, Ledger: s.ledger}, to: 3, slip: api.Slip{From: 3, To: 2, Records: []api.Record{r}},
	}
}

// fullRight is right of books and a house that have as many records as they may.
func fullRight() args {
	x := right()
	b := x.book
	for no := range 57 {
		b.Records = append(b.Records, note(5, no, 1, 1, ""))
	}
	s := appended(newStore(), b.Records...)
	s.ledger.Epoch = 1000000
	x.book, x.other, x.disk, x.ledger = b, bookOf(note(2, 0, 1, 1, "a"), note(2, 1, 2, 2, "b"), note(2, 2, 5, 5, "d")), s.disk, s.ledger
	x.house.Disk, x.house.Ledger = s.disk, s.ledger
	return x
}

// spoilt returns right arguments with those made wrong that have one of the errors.
func spoilt(errors []api.Errno) args {
	x := right()
	if slices.Contains(errors, api.ErrLong) {
		x = fullRight()
	}
	// What is not valid has no other error, so the first ones come last.
	for _, e := range slices.Backward(errors) {
		switch e {
		case api.ErrNone:
			x.at.No = 2
		case api.ErrDay:
			x.known = -1
		case api.ErrGap:
			x.record.At.No = 3
		case api.ErrTwo:
			x.record.At.No = 1
			x.other.Records = slices.Clone(x.other.Records)
			x.other.Records[1].Kind++
			x.slip.Records = slices.Concat(x.other.Records[1:2], x.slip.Records)
		case api.ErrArg:
			x.number, x.me, x.to = 60, 6, 2
		case api.ErrRecord:
			x.record.Kind = 41
			x.bytes[3] = 41
		case api.ErrBook:
			x.book.Records = slices.Clone(x.book.Records)
			x.book.Records[0].Kind = 41
		case api.ErrDisk:
			x.ledger.Used++
		case api.ErrSlip:
			x.slip.Have[0] = 61
		case api.ErrHouse:
			x.house.Known[0][0] = 61
		}
	}
	return x
}

func TestFirstErrorDecides(t *testing.T) {
	for _, name := range probe.OutOfOrder(allCalls(), spoilt) {
		t.Error(name)
	}
	for _, c := range append(allCalls(), openCalls()...) {
		if told := c.Run(right()); told.Error != api.OK {
			t.Error(c.Name, told)
		}
	}
}

// spoiltDisk returns right arguments whose disk has some of the errors of Open.
func spoiltDisk(errors []api.Errno) args {
	x := right()
	x.disk = book.Sync(x.disk)
	if slices.Contains(errors, api.ErrLong) {
		x.disk.Pages[600][0] = headOf(1000000, 0)
	}
	if slices.Contains(errors, api.ErrArea) {
		x.disk.Pages[0][0][31] = 0
	}
	if slices.Contains(errors, api.ErrDisk) {
		x.disk.Wait = []api.Write{{At: 602}}
	}
	return x
}

func TestFirstErrorOfOpen(t *testing.T) {
	for _, name := range probe.OutOfOrder(openCalls(), spoiltDisk) {
		t.Error(name)
	}
}

// checkErrors runs all calls with arguments of which one is wrong.
func checkErrors(t *testing.T, want api.Errno, spoil func(x *args)) {
	t.Helper()
	x := right()
	spoil(&x)
	for _, name := range probe.Missed(append(allCalls(), openCalls()...), want, x) {
		t.Error(name, want, x.record, x.book, x.ledger, x.slip)
	}
}

func TestEachWrongArgument(t *testing.T) {
	for _, r := range wrongRecords() {
		if r.At == entry(2, 0) {
			// Note gives a record its entry.
			checkErrors(t, api.ErrRecord, func(x *args) { x.record, x.bytes = r, nil })
		}
	}
	for _, b := range wrongBooks() {
		checkErrors(t, api.ErrBook, func(x *args) { x.book = b })
		if _, e := book.Join(bookOf(), b); e != api.ErrBook {
			t.Error(b)
		}
	}
	for _, d := range wrongDisks() {
		checkErrors(t, api.ErrDisk, func(x *args) { x.disk = d })
	}
	for _, h := range wrongHouses() {
		checkErrors(t, api.ErrHouse, func(x *args) { x.house = h })
	}
	for _, s := range wrongSlips() {
		checkErrors(t, api.ErrSlip, func(x *args) { x.slip = s })
	}
	for _, n := range probe.WrongNumbers(0, 5) {
		checkErrors(t, api.ErrArg, func(x *args) { x.me, x.to, x.number = n, n, -1 })
	}
	for _, n := range probe.WrongNumbers(0, 100000) {
		checkErrors(t, api.ErrDay, func(x *args) { x.known = n })
	}
	for _, at := range []api.Entry{entry(2, 2), entry(2, -1), entry(0, 0), entry(-1, 0), entry(6, 0), entry(math.MaxInt, math.MinInt)} {
		checkErrors(t, api.ErrNone, func(x *args) { x.at = at })
	}
}

func TestLimitsOfArguments(t *testing.T) {
	for _, known := range []int{0, 100000} {
		if l, e := book.Standing(right().book, known); len(l) != min(known, 3) || e != api.OK {
			t.Error(known, l, e)
		}
	}
	for _, c := range append(allCalls(), openCalls()...) {
		x := right()
		x.book, x.other, x.slip.Records = api.Book{}, api.Book{}, nil
		x.disk, x.ledger = book.New()
		x.house = newHouse(2)
		x.record = note(2, 0, 1, 1, "")
		want := api.OK
		if c.Name == "Stands" {
			want = api.ErrNone
		}
		if told := c.Run(x); told.Error != want {
			t.Error(c.Name, told)
		}
	}
}

// roomy returns an equal list that has room for what an append would write into.
func roomy[T any](l []T) []T { return slices.Grow(slices.Clone(l), 3) }

func roomyDisk(d api.Disk) api.Disk { return api.Disk{Pages: roomy(d.Pages), Wait: roomy(d.Wait)} }

func roomyBook(b api.Book) api.Book { return bookOf(roomy(b.Records)...) }

func TestArgumentsAreNotChanged(t *testing.T) {
	for _, was := range []args{right(), fullRight(), spoilt([]api.Errno{api.ErrTwo}), spoilt([]api.Errno{api.ErrHouse, api.ErrDisk})} {
		x := was
		x.bytes, x.book, x.other = roomy(was.bytes), roomyBook(was.book), roomyBook(was.other)
		x.disk, x.ledger.Book = roomyDisk(was.disk), roomyBook(was.ledger.Book)
		x.house.Disk, x.house.Ledger.Book = roomyDisk(was.house.Disk), roomyBook(was.house.Ledger.Book)
		x.slip.Records, x.picks = roomy(was.slip.Records), []int{3, 2, 1}
		for _, c := range append(allCalls(), openCalls()...) {
			c.Run(x)
			book.Sync(x.disk)
			book.Crash(x.disk, x.picks)
			if !slices.Equal(x.bytes, was.bytes) || !isSame(x.book, was.book) || !isSame(x.other, was.other) || !isSame(x.disk, was.disk) || !isSame(x.ledger, was.ledger) {
				t.Fatal(c.Name)
			}
			if !isSame(x.house, was.house) || !isSame(x.slip, was.slip) || !slices.Equal(x.picks, []int{3, 2, 1}) {
				t.Fatal(c.Name)
			}
			for _, r := range [][]api.Record{x.book.Records, x.other.Records, x.ledger.Book.Records, x.slip.Records} {
				if r[:len(r)+1][len(r)] != (api.Record{}) {
					t.Fatal(c.Name)
				}
			}
			if n := len(x.disk.Wait); x.disk.Wait[:n+1][n] != (api.Write{}) || x.house.Disk.Wait[:n+1][n] != (api.Write{}) {
				t.Fatal(c.Name)
			}
		}
	}
}

// scribble writes into all that a result has.
func scribble(disks []api.Disk, l api.Ledger) {
	for _, d := range disks {
		for i := range d.Pages {
			d.Pages[i][0][0] ^= 255
		}
		for i := range d.Wait {
			d.Wait[i].At = 77
		}
	}
	for i := range l.Book.Records {
		l.Book.Records[i].Kind = 39
	}
}

// No result shares memory with an argument, or with another one.
func TestNothingIsKept(t *testing.T) {
	x, was := right(), right()
	house := func(h api.House) { scribble([]api.Disk{h.Disk}, h.Ledger) }
	for i, run := range []func(){
		func() { d, l, _ := book.Open(x.disk); scribble([]api.Disk{d}, l) },
		func() { d, l, _ := book.Append(x.disk, x.ledger, x.record); scribble([]api.Disk{d}, l) },
		func() { d, l, _ := book.Append(x.disk, x.ledger, x.book.Records[0]); scribble([]api.Disk{d}, l) },
		func() { ways, l, _ := book.Pack(x.disk, x.ledger); scribble(ways, l) },
		func() { scribble([]api.Disk{book.Sync(x.disk), book.Crash(x.disk, []int{3})}, api.Ledger{}) },
		func() { b, _ := book.Add(x.book, x.record); scribble(nil, api.Ledger{Book: b}) },
		func() { b, _ := book.Add(x.book, x.book.Records[0]); scribble(nil, api.Ledger{Book: b}) },
		func() { b, _ := book.Join(x.book, api.Book{}); scribble(nil, api.Ledger{Book: b}) },
		func() { b, _ := book.Join(api.Book{}, x.book); scribble(nil, api.Ledger{Book: b}) },
		func() { l, _ := book.Standing(x.book, 9); scribble(nil, api.Ledger{Book: bookOf(l...)}) },
		func() { h, _, _ := book.Note(x.house, x.record); house(h) },
		func() {
			h, s, _ := book.Offer(x.house, 3)
			house(h)
			scribble(nil, api.Ledger{Book: bookOf(s.Records...)})
		},
		func() { h, _, _ := book.Receive(x.house, x.slip); house(h) },
		func() { h, _, _ := book.Receive(x.house, api.Slip{From: 3, To: 2}); house(h) },
		func() { h, _ := book.Restart(x.house, []int{3}); house(h) },
	} {
		run()
		if !isSame(x.book, was.book) || !isSame(x.disk, was.disk) || !isSame(x.ledger, was.ledger) || !isSame(x.house, was.house) || !isSame(x.slip, was.slip) {
			t.Fatal(i)
		}
	}
	ways, _, _ := book.Pack(x.disk, x.ledger)
	for i := range ways {
		scribble(ways[i:i+1], api.Ledger{})
		again, _, _ := book.Pack(x.disk, x.ledger)
		for k, d := range ways {
			if k != i && !isSame(d, again[k]) {
				t.Fatal(i, k)
			}
		}
		ways = again
	}
	h, s := offer(x.house, 3)
	scribble(nil, api.Ledger{Book: bookOf(s.Records...)})
	if !isSame(h.Ledger, was.ledger) {
		t.Fatal("a slip shares memory with its house")
	}
}

// Whatever the arguments are, nothing panics.
func TestStrangeArguments(t *testing.T) {
	r := rand.New(rand.NewSource(25))
	numbers := []int{0, 1, -1, 2, 60, 61, 600, 602, 9999, 1000000, math.MinInt, math.MaxInt}
	some := func() int { return numbers[r.Intn(len(numbers))] }
	at := func() api.Entry { return entry(some(), some()) }
	record := func() api.Record {
		return api.Record{At: at(), Kind: some(), Day: some(), Known: some(), Of: at(), Text: string(make([]byte, r.Intn(300)))}
	}
	records := func() []api.Record {
		l := make([]api.Record, r.Intn(70))
		for i := range l {
			l[i] = record()
		}
		return l
	}
	disk := func() api.Disk {
		d := right().disk
		switch r.Intn(4) {
		case 0:
			d.Pages = make([]api.Page, r.Intn(700))
		case 1:
			for range 9 {
				d.Wait = append(d.Wait, api.Write{At: some()})
			}
		}
		return d
	}
	ledger := func() api.Ledger {
		return api.Ledger{Book: bookOf(records()...), Area: some(), Epoch: some(), Used: some()}
	}
	for range 1000 {
		x := args{
			record: record(), bytes: make([]byte, r.Intn(300)), book: bookOf(records()...), other: bookOf(records()...), at: at(), known: some(),
			number: some(), epoch: some(), disk: disk(), ledger: ledger(), me: some(), to: some(), picks: []int{some(), some()},
			slip: api.Slip{From: some(), To: some(), Have: [6]int{some(), some()}, Records: records()},
		}
		x.house = api.House{Me: some(), Disk: disk(), Ledger: ledger()}
		x.house.Known[r.Intn(6)][r.Intn(6)] = some()
		if r.Intn(2) == 0 {
			x.disk, x.ledger = right().disk, right().ledger
			x.house = right().house
		}
		for i := range x.bytes {
			x.bytes[i] = byte(r.Intn(256))
		}
		for _, c := range append(allCalls(), openCalls()...) {
			if told := c.Run(x); told.Error != api.OK && !told.Zero {
				t.Fatal(c.Name, x)
			}
		}
		book.Sync(x.disk)
		book.Crash(x.disk, x.picks)
	}
}
