package pay_test

import (
	"math/rand"
	"slices"
	"sync"
	"testing"

	"potbank/api"
	"potbank/pay"
)

func TestDates(t *testing.T) {
	for _, x := range []struct {
		s    api.Shop
		want []int
	}{
		{api.Shop{}, nil}, {shopS(), []int{1, 2, 3, 4, 6, 9, 12}}, {fullShop(12, 60, 60), []int{1}},
		{api.Shop{Works: []api.Work{work(1, 1, 1, 1, 1, 1, 77, 5, 0), work(2, 1, 1, 1, 1, 1, 77, 0, 8)}, Claims: []api.Claim{claim(1, 1, 1, 1, 3, 0), claim(2, 1, 1, 1, 8, 100000)}}, []int{0, 3, 5, 8, 100000}},
		{api.Shop{Customs: []api.Custom{custom(1, 7, 1, 1, 1)}, Claims: []api.Claim{claim(1, 1, 1, 1, 6, 9), claim(4, 1, 1, 1, 6, 7), claim(5, 1, 1, 1, 2, 9)}}, []int{2, 6, 7, 9}},
	} {
		if l, e := pay.Dates(x.s); !slices.Equal(l, x.want) || e != api.OK {
			t.Error(x.want, l, e)
		}
	}
}

// claimedS is the shop of the examples with the claim that they have.
func claimedS() api.Shop { return claimed(shopS(), claim(60, 11, 1, 5, 7, 0)) }

func TestPosts(t *testing.T) {
	first := []api.Post{post(4, 10, 0, 3, 200), post(4, 11, 0, 3, 200), post(4, 12, 0, 3, 200)}
	moved := []api.Post{post(7, 11, 0, 3, -200), post(7, 11, 0, 6, 200)}
	back := []api.Post{post(12, 10, 0, 3, -200), post(12, 11, 0, 3, -200), post(12, 12, 0, 3, -200)}
	backMoved := []api.Post{post(12, 10, 0, 3, -200), post(12, 11, 0, 6, -200), post(12, 12, 0, 3, -200)}
	for _, x := range []struct {
		s         api.Shop
		known     int
		all, then []api.Post
	}{
		{shopS(), 0, nil, nil}, {shopS(), 3, nil, nil}, {shopS(), 4, first, first}, {shopS(), 5, first, nil}, {shopS(), 11, first, nil},
		{shopS(), 12, slices.Concat(first, back), back}, {shopS(), 100000, slices.Concat(first, back), nil},
		{claimedS(), 6, first, nil}, {claimedS(), 7, slices.Concat(first, moved), moved}, {claimedS(), 12, slices.Concat(first, moved, backMoved), backMoved},
		{api.Shop{}, 5, nil, nil},
	} {
		if l, e := pay.Posts(x.s, x.known); !slices.Equal(l, x.all) || e != api.OK {
			t.Error(x.known, l, e)
		}
		if l, e := pay.Corrected(x.s, x.known); !slices.Equal(l, x.then) || e != api.OK {
			t.Error(x.known, l, e)
		}
		if e := pay.CheckPosts(x.s, x.known, x.all); e != api.OK {
			t.Error(x.known, e)
		}
	}
}

// On the day 0, of the fireman, and of a work that ends or makes way for another one.
func TestMorePosts(t *testing.T) {
	s := fates(custom(1, 0, api.ByPiece, api.BearsFireman, 0), 1)
	s.Works = []api.Work{work(5, 4, 2, 3, 1, 2, 0, 7, 9), work(50, 1, 4, 2, 1, 1, 0, 0, 0)}
	want := []api.Post{
		post(0, 1, 0, 3, 100), post(0, 2, 0, 3, 100), post(0, 3, 0, 3, 100), post(0, 4, 0, 3, 100), post(5, 4, 1, 0, 100),
		post(7, 4, 0, 3, -100), post(7, 4, 0, 4, 200), post(7, 4, 1, 0, 100), post(7, 5, 0, 4, 200),
		post(9, 4, 0, 3, 100), post(9, 4, 0, 4, -200), post(9, 4, 1, 0, -100), post(9, 5, 0, 4, -200),
	}
	if l, e := pay.Posts(s, 9); !slices.Equal(l, want) || e != api.OK {
		t.Error(l, e)
	}
	if l, e := pay.Posts(s, 0); !slices.Equal(l, want[:4]) || e != api.OK {
		t.Error(l, e)
	}
}

func TestCheckPosts(t *testing.T) {
	right, _ := pay.Posts(claimedS(), 12)
	if len(right) != 8 {
		t.Fatal(right)
	}
	wrong := [][]api.Post{nil, {}, right[1:], right[:7], append(slices.Clone(right), right[7]), append(slices.Clone(right), api.Post{}), {{}}}
	for i := range right {
		for _, change := range []func(p *api.Post){
			func(p *api.Post) { p.Known++ }, func(p *api.Post) { p.Piece-- }, func(p *api.Post) { p.From++ }, func(p *api.Post) { p.To++ },
			func(p *api.Post) { p.Amount = -p.Amount }, func(p *api.Post) { p.From, p.To, p.Amount = p.To, p.From, -p.Amount }, func(p *api.Post) { *p = api.Post{} },
		} {
			l := slices.Clone(right)
			change(&l[i])
			wrong = append(wrong, l)
		}
		wrong = append(wrong, slices.Delete(slices.Clone(right), i, i+1), slices.Insert(slices.Clone(right), i, right[i]))
		if i > 0 {
			l := slices.Clone(right)
			l[i-1], l[i] = l[i], l[i-1]
			wrong = append(wrong, l)
		}
	}
	for _, l := range wrong {
		if e := pay.CheckPosts(claimedS(), 12, l); e != api.ErrPosts {
			t.Error(l, e)
		}
	}
	if e := pay.CheckPosts(claimedS(), 12, right); e != api.OK {
		t.Error(e)
	}
	if e := pay.CheckPosts(claimedS(), 11, right); e != api.ErrPosts {
		t.Error("of another day", e)
	}
	if e := pay.CheckPosts(claimedS(), 3, []api.Post{}); e != api.OK {
		t.Error("none", e)
	}
}

func TestBalance(t *testing.T) {
	wastes := shopS()
	wastes.Customs[0].Basis = api.ByPiece
	wastes.Events[2] = event(2, api.EvRead, 3, 3, "1 0 3 0 900 990")
	for _, x := range []struct {
		s     api.Shop
		known int
		want  [11]int
	}{
		{shopS(), 3, [11]int{}}, {shopS(), 5, [11]int{0: -600, 3: 600}}, {shopS(), 12, [11]int{}},
		{claimedS(), 6, [11]int{0: -600, 3: 600}}, {claimedS(), 7, [11]int{0: -600, 3: 400, 6: 200}}, {claimedS(), 12, [11]int{}},
		{wastes, 1, [11]int{0: -600, 3: 600}}, {wastes, 3, [11]int{0: -600, 3: 600}}, {wastes, 4, [11]int{1: -600, 3: 600}}, {wastes, 12, [11]int{0: -600, 3: 600}},
	} {
		for party, want := range x.want {
			if n, e := pay.Balance(x.s, party, x.known); n != want || e != api.OK {
				t.Error(x.known, party, n, e)
			}
		}
	}
}

func TestPaid(t *testing.T) {
	for _, x := range []struct{ maker, piece, known, want int }{
		{2, 10, 3, 0}, {2, 10, 4, 200}, {2, 11, 4, 200}, {5, 11, 6, 0}, {2, 11, 6, 200}, {2, 11, 7, 0}, {5, 11, 7, 200}, {5, 10, 7, 0}, {2, 10, 7, 200}, {5, 11, 12, 0},
		{2, 12, 12, 0}, {2, 13, 7, 0}, {1, 10, 7, 0}, {9, 9999, 100000, 0}, {1, 1, 0, 0}, {3, 10, 4, 0},
	} {
		if n, e := pay.Paid(claimedS(), x.maker, x.piece, x.known); n != x.want || e != api.OK {
			t.Error(x, n, e)
		}
	}
}

func TestPostsAgainstTheDefinitions(t *testing.T) {
	r := rand.New(rand.NewSource(5))
	fines, backs := 0, 0
	for range 200 {
		s := someShop(r)
		known := lastDay - r.Intn(4)*r.Intn(4)
		want := postsOf(s, known)
		l, e := pay.Posts(s, known)
		if !slices.Equal(l, want) || e != api.OK {
			t.Fatal(s, known, l, want, e)
		}
		then, e := pay.Corrected(s, known)
		if e != api.OK || !slices.Equal(then, slices.DeleteFunc(want, func(p api.Post) bool { return p.Known != known })) {
			t.Fatal(s, known, then, e)
		}
		for _, p := range l {
			if p.From == api.Fireman {
				fines++
			}
			if p.Amount < 0 {
				backs++
			}
		}
	}
	if fines < 30 || backs < 500 {
		t.Error("the cases are lopsided", fines, backs)
	}
}

// slot is what no two postings have in common.
type slot struct{ day, piece, from, to int }

func checkSlots(t *testing.T, s api.Shop, l []api.Post) {
	t.Helper()
	dates, _ := pay.Dates(s)
	seen := map[slot]bool{}
	for _, p := range l {
		x := slot{p.Known, p.Piece, p.From, p.To}
		isRight := p.From == api.Master && p.To >= 2 && p.To <= 10 || p.From == api.Fireman && p.To == api.Master
		if seen[x] || p.Amount == 0 || !slices.Contains(dates, p.Known) || !isRight {
			t.Fatal(s, p)
		}
		seen[x] = true
	}
}

// Up to each day the postings for a piece add up to its due, and what others than its maker got they have paid back.
func TestPaidOnce(t *testing.T) {
	r := rand.New(rand.NewSource(6))
	for range 25 {
		s := someShop(r)
		for known := range lastDay + 1 {
			l, e := pay.Posts(s, known)
			if e != api.OK {
				t.Fatal(s, e)
			}
			checkSlots(t, s, l)
			sums := map[[2]int]int{} // by pieces and the parties that are paid
			var balances [11]int
			for _, p := range l {
				sums[[2]int{p.Piece, p.To}] += p.Amount
				balances[p.To] += p.Amount
				balances[p.From] -= p.Amount
			}
			for piece := 1; piece <= lastPiece; piece++ {
				checkPaid(t, s, piece, known, sums)
			}
			checkBalances(t, s, known, balances)
		}
	}
}

func checkPaid(t *testing.T, s api.Shop, piece, known int, sums map[[2]int]int) {
	t.Helper()
	k := ask(s, piece, known)
	if sums[[2]int{piece, 0}] != k.isFined {
		t.Fatal(s, piece, known, k, sums)
	}
	for maker := 1; maker <= 9; maker++ {
		want := 0
		if maker == k.maker {
			want = k.isPaid
		}
		n := sums[[2]int{piece, 1 + maker}]
		if n != want {
			t.Fatal(s, piece, maker, known, k, n)
		}
	}
	// A call for each would take long.
	maker := 1 + (piece+known)%9
	if n, e := pay.Paid(s, maker, piece, known); n != sums[[2]int{piece, 1 + maker}] || e != api.OK {
		t.Fatal(s, piece, maker, known, n, e)
	}
}

func checkBalances(t *testing.T, s api.Shop, known int, want [11]int) {
	t.Helper()
	all := 0
	for party, want := range want {
		n, e := pay.Balance(s, party, known)
		if n != want || e != api.OK {
			t.Fatal(s, party, known, n, e)
		}
		all += n
	}
	if all != 0 {
		t.Fatal(s, known, all)
	}
}

// largeShop returns a shop at all limits in which much is known on days of its own.
func largeShop() api.Shop {
	s := api.Shop{Wares: shopS().Wares, Customs: []api.Custom{custom(1, 0, api.ByPiece, api.BearsFireman, 500)}}
	s.Events = []api.Event{event(0, api.EvKiln, 1, 1, "1 6 24 100 200"), event(1, api.EvDrawn, 9, 20, "1")}
	for i := range 30 {
		s.Events = append(s.Events, event(2+i, api.EvSet, 2, 30+7*i, words(1, i%24, 1, 1+40*i, 40)))
	}
	for i := range 28 {
		s.Events = append(s.Events, event(32+i, api.EvRead, 3, 250+3*i, words(1, i%24, api.Ring, 0, 1000+i, 1100-i)))
	}
	for i := range 60 {
		s.Works = append(s.Works, work(1+i, 1+40*i, 40, 1+i%9, 1, i%5, 1, i, 600+i))
		s.Claims = append(s.Claims, claim(1+i, 21+40*i, 40, 1+i%7, 100+3*i, 500+2*i))
	}
	return s
}

func TestALargeShop(t *testing.T) {
	s := largeShop()
	for _, known := range []int{150, 400, 100000} {
		l, e := pay.Posts(s, known)
		if e != api.OK {
			t.Fatal(e)
		}
		checkSlots(t, s, l)
		sums := map[int]int{}
		for _, p := range l {
			if p.From == api.Master {
				sums[p.Piece] += p.Amount
			}
		}
		for piece := 1; piece <= 2500; piece += 37 {
			if k := ask(s, piece, known); sums[piece] != k.isPaid {
				t.Fatal(piece, known, sums[piece], k)
			}
		}
	}
}

// Calls at the same time do not hinder each other.
func TestPostsAtTheSameTime(t *testing.T) {
	s := claimedS()
	want, _ := pay.Posts(s, 12)
	var calls sync.WaitGroup
	for range 20 {
		calls.Add(1)
		go func() {
			defer calls.Done()
			if l, e := pay.Posts(s, 12); !slices.Equal(l, want) || e != api.OK {
				t.Error(l, e)
			}
		}()
	}
	calls.Wait()
}
