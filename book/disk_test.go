package book_test

import (
	"math"
	"math/rand"
	"slices"
	"testing"

	"potbank/api"
	"potbank/book"
)

// wrongDisks lists disks that are not valid.
func wrongDisks() []api.Disk {
	s := appended(newStore(), bent())
	var l []api.Disk
	add := func(spoil func(d *api.Disk)) {
		d := copyOf(s.disk)
		spoil(&d)
		l = append(l, d)
	}
	add(func(d *api.Disk) { d.Pages = d.Pages[:601] })
	add(func(d *api.Disk) { d.Pages = append(d.Pages, api.Page{}) })
	add(func(d *api.Disk) { d.Pages = nil })
	add(func(d *api.Disk) { d.Pages, d.Wait = nil, nil })
	add(func(d *api.Disk) { d.Pages = d.Pages[:1] })
	for _, n := range []int{-1, 602, math.MinInt, math.MaxInt} {
		add(func(d *api.Disk) { d.Wait[0].At = n })
		add(func(d *api.Disk) { d.Wait[1].At = n })
	}
	add(func(d *api.Disk) { d.Wait = slices.Repeat(d.Wait[:1], 1201) })
	return l
}

// aPage returns a page of bytes that are all alike, but for those of its second half.
func aPage(b byte) api.Page {
	var p api.Page
	for i := range p[0] {
		p[0][i], p[1][i] = b, b+1
	}
	return p
}

func TestNew(t *testing.T) {
	d, l := book.New()
	if !isSame(l, api.Ledger{Epoch: 1, Used: 1}) || len(d.Wait) != 0 || len(d.Pages) != 602 {
		t.Fatal(l, len(d.Pages), d.Wait)
	}
	for i, p := range d.Pages {
		var want api.Page
		if i == 0 {
			want[0] = half{'h', 0, 0, 1, 31: 165}
		}
		if p != want {
			t.Error(i, p)
		}
	}
	checkStore(t, store{d, l})
	d.Pages[0][0][0] = 7
	if again, _ := book.New(); again.Pages[0][0][0] != 'h' {
		t.Error("two disks share memory")
	}
}

func TestSync(t *testing.T) {
	d, _ := book.New()
	d.Wait = []api.Write{{At: 3, Page: aPage(1)}, {At: 601, Page: aPage(3)}, {At: 3, Page: aPage(5)}, {At: 0, Page: aPage(7)}}
	was := copyOf(d)
	s := book.Sync(d)
	want := slices.Clone(d.Pages)
	want[0], want[3], want[601] = aPage(7), aPage(5), aPage(3)
	if !isSame(s, api.Disk{Pages: want}) || !isSame(d, was) {
		t.Error("wrong pages")
	}
	if again := book.Sync(s); !isSame(again, s) {
		t.Error("what is synced is changed")
	}
}

// Each write is lost or made by itself, in order.
func TestCrash(t *testing.T) {
	d, _ := book.New()
	d.Wait = []api.Write{{At: 3, Page: aPage(10)}, {At: 4, Page: aPage(20)}, {At: 3, Page: aPage(30)}}
	for picks := range 64 {
		for _, shift := range []int{0, 4, -4, 400, -400, math.MinInt, math.MaxInt - 3} {
			p := []int{picks%4 + shift, picks/4%4 + shift, picks / 16}
			want := slices.Clone(d.Pages)
			for i, w := range d.Wait {
				n := []int{picks % 4, picks / 4 % 4, picks / 16}[i]
				if n == 1 || n == 3 {
					want[w.At][0] = w.Page[0]
				}
				if n == 2 || n == 3 {
					want[w.At][1] = w.Page[1]
				}
			}
			if c := book.Crash(d, p); !isSame(c, api.Disk{Pages: want}) {
				t.Fatal(p, c.Pages[3], c.Pages[4])
			}
		}
	}
}

func TestPicksOfCrash(t *testing.T) {
	d, _ := book.New()
	for i := range 5 {
		d.Wait = append(d.Wait, api.Write{At: 10 + i, Page: aPage(byte(9 + i))})
	}
	for _, x := range []struct {
		picks []int
		want  []int
	}{
		{nil, []int{0, 0, 0, 0, 0}}, {[]int{}, []int{0, 0, 0, 0, 0}}, {[]int{3}, []int{3, 3, 3, 3, 3}}, {[]int{2, 1}, []int{2, 1, 2, 1, 2}}, {[]int{1, 0, -1}, []int{1, 0, 3, 1, 0}},
		{[]int{0, 1, 2, 3, 4, 3, 3}, []int{0, 1, 2, 3, 0}}, {[]int{-2, -3, -4, -5, -6}, []int{2, 1, 0, 3, 2}},
	} {
		if c := book.Crash(d, x.picks); !isSame(c, book.Crash(d, x.want)) {
			t.Error(x)
		}
	}
	r := rand.New(rand.NewSource(10))
	d.Wait = nil
	for range 1200 {
		d.Wait = append(d.Wait, api.Write{At: r.Intn(602), Page: aPage(byte(r.Intn(256)))})
	}
	if c := book.Crash(d, []int{3}); !isSame(c, book.Sync(d)) || isSame(c, book.Crash(d, []int{0})) {
		t.Error("all made is not what Sync makes")
	}
	if c := book.Crash(d, nil); !isSame(c, api.Disk{Pages: d.Pages}) {
		t.Error("all lost is not the disk")
	}
}

// A disk that is not valid stays as it is.
func TestWrongDisks(t *testing.T) {
	_, l := book.New()
	for i, d := range wrongDisks() {
		was := copyOf(d)
		for _, c := range []api.Disk{book.Sync(d), book.Crash(d, []int{3}), book.Crash(d, nil)} {
			if !isSame(c, was) {
				t.Error(i)
			}
			for k := range c.Pages {
				c.Pages[k][0][0] ^= 1
			}
			for k := range c.Wait {
				c.Wait[k].Page[0][0] ^= 1
			}
			if !isSame(d, was) {
				t.Error("they share memory", i)
			}
		}
		if _, e := open(d); e != api.ErrDisk {
			t.Error(i, e)
		}
		if book.CheckLedger(d, l) != api.ErrDisk {
			t.Error(i)
		}
	}
	full := newStore().disk
	full.Wait = slices.Repeat([]api.Write{{At: 601, Page: aPage(1)}}, 1200)
	if book.CheckLedger(full, l) != api.OK {
		t.Error("a disk on which as many writes wait as may")
	}
}
