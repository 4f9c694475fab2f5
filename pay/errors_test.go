package pay_test

import (
	"math"
	"slices"
	"testing"

	"potbank/api"
	"potbank/pay"
	"potbank/probe"
)

// args are all that the functions of the package take.
type args struct {
	shop          api.Shop
	custom        api.Custom
	work          api.Work
	claim         api.Claim
	trade, day    int
	maker, piece  int
	party, source int
	posts         []api.Post
}

type call = probe.Call[args]

func isNoShop(s api.Shop) bool { return isSame(s, api.Shop{}) }

func shopCalls() []call {
	return []call{
		probe.Of("CheckCustom", []api.Errno{api.ErrCustom}, func(x args) probe.Told { return probe.Error(pay.CheckCustom(x.custom)) }),
		probe.Of("CheckWork", []api.Errno{api.ErrWork}, func(x args) probe.Told { return probe.Error(pay.CheckWork(x.work)) }),
		probe.Of("CheckClaim", []api.Errno{api.ErrClaim}, func(x args) probe.Told { return probe.Error(pay.CheckClaim(x.claim)) }),
		probe.Of("Check", []api.Errno{api.ErrShop}, func(x args) probe.Told { return probe.Error(pay.Check(x.shop)) }),
		probe.Of("Claimed", []api.Errno{api.ErrShop, api.ErrClaim, api.ErrLong}, func(x args) probe.Told { return probe.By(isNoShop)(pay.Claimed(x.shop, x.claim)) }),
		probe.Of("InForce", []api.Errno{api.ErrShop, api.ErrArg, api.ErrDay, api.ErrForce}, func(x args) probe.Told { return probe.Value(pay.InForce(x.shop, x.trade, x.day)) }),
		probe.Of("Dates", []api.Errno{api.ErrShop}, func(x args) probe.Told { return probe.List(pay.Dates(x.shop)) }),
	}
}

func pieceCalls() []call {
	piece := []api.Errno{api.ErrShop, api.ErrArg, api.ErrDay, api.ErrUnmade}
	return []call{
		probe.Of("Maker", piece, func(x args) probe.Told { return probe.Value(pay.Maker(x.shop, x.piece, x.day)) }),
		probe.Of("Outcome", piece, func(x args) probe.Told { return probe.Value(pay.Outcome(x.shop, x.piece, x.day)) }),
		probe.Of("Due", piece, func(x args) probe.Told {
			m, f, e := pay.Due(x.shop, x.piece, x.day)
			return probe.Told{Zero: m == 0 && f == 0, Error: e}
		}),
		probe.Of("Paid", piece[:3], func(x args) probe.Told { return probe.Value(pay.Paid(x.shop, x.maker, x.piece, x.day)) }),
		probe.Of("Share", piece[:3], func(x args) probe.Told { return probe.List(pay.Share(x.shop, x.maker, x.day)) }),
	}
}

func dayCalls() []call {
	day := []api.Errno{api.ErrShop, api.ErrDay}
	return []call{
		probe.Of("Made", day, func(x args) probe.Told { return probe.List(pay.Made(x.shop, x.day)) }),
		probe.Of("Posts", day, func(x args) probe.Told { return probe.List(pay.Posts(x.shop, x.day)) }),
		probe.Of("CheckPosts", append(slices.Clone(day), api.ErrPosts), func(x args) probe.Told { return probe.Error(pay.CheckPosts(x.shop, x.day, x.posts)) }),
		probe.Of("Corrected", day, func(x args) probe.Told { return probe.List(pay.Corrected(x.shop, x.day)) }),
		probe.Of("Balance", []api.Errno{api.ErrShop, api.ErrParty, api.ErrDay}, func(x args) probe.Told { return probe.Value(pay.Balance(x.shop, x.party, x.day)) }),
		probe.Of("Unsettled", day, func(x args) probe.Told { return probe.List(pay.Unsettled(x.shop, x.day)) }),
		probe.Of("Moved", append(slices.Clone(day), api.ErrNone), func(x args) probe.Told { return probe.List(pay.Moved(x.shop, x.source, x.day)) }),
	}
}

func allCalls() []call { return slices.Concat(shopCalls(), pieceCalls(), dayCalls()) }

func right() args {
	x := args{
		shop: shopS(), custom: custom(2, 3, 1, 1, 500), work: work(70, 20, 3, 2, 1, 2, 1, 1, 0), claim: claim(70, 11, 1, 5, 7, 0),
		trade: 1, day: 12, maker: 2, piece: 10, party: 3, source: 3,
	}
	x.posts, _ = pay.Posts(x.shop, x.day)
	return x
}

// spoilt returns right arguments with those made wrong that have one of the errors.
func spoilt(errors []api.Errno) args {
	x := right()
	// A shop that is not valid has no other error, so this one comes last.
	for _, e := range slices.Backward(errors) {
		switch e {
		case api.ErrCustom:
			x.custom.Basis = 0
		case api.ErrWork:
			x.work.Grade = 5
		case api.ErrClaim:
			x.claim.Many = 0
		case api.ErrLong:
			x.shop.Claims = fullShop(0, 0, 60).Claims
		case api.ErrNone:
			x.source = 77
		case api.ErrUnmade:
			x.piece = 13
		case api.ErrForce:
			x.trade = 2
		case api.ErrPosts:
			x.posts[0].Amount++
		case api.ErrDay:
			x.day = -1
		case api.ErrParty:
			x.party = 11
		case api.ErrArg:
			x.trade, x.maker, x.piece = 10, 0, 10000
		case api.ErrShop:
			x.shop.Works[0].Source = 0
		}
	}
	return x
}

func TestFirstErrorDecides(t *testing.T) {
	for _, name := range probe.OutOfOrder(allCalls(), spoilt) {
		t.Error(name)
	}
	for _, c := range allCalls() {
		if told := c.Run(right()); told.Error != api.OK {
			t.Error(c.Name, told)
		}
	}
}

// checkErrors runs all calls with arguments of which one is wrong.
func checkErrors(t *testing.T, want api.Errno, spoil func(x *args)) {
	t.Helper()
	x := right()
	spoil(&x)
	for _, name := range probe.Missed(allCalls(), want, x) {
		t.Error(name, x)
	}
}

func TestEachWrongArgument(t *testing.T) {
	for _, s := range wrongShops() {
		checkErrors(t, api.ErrShop, func(x *args) { x.shop = s })
	}
	for _, n := range append(wrongNumbers(1, 9), 11, -1) {
		checkErrors(t, api.ErrArg, func(x *args) { x.trade, x.maker, x.piece = n, n, 0 })
	}
	for _, n := range append(wrongNumbers(1, 9999), -1) {
		checkErrors(t, api.ErrArg, func(x *args) { x.trade, x.maker, x.piece = 0, 0, n })
	}
	for _, n := range append(wrongNumbers(0, 10), 100000) {
		checkErrors(t, api.ErrParty, func(x *args) { x.party = n })
	}
	for _, n := range wrongNumbers(0, 100000) {
		checkErrors(t, api.ErrDay, func(x *args) { x.day = n })
	}
	for _, n := range []int{1, 9, 13, 9999} {
		checkErrors(t, api.ErrUnmade, func(x *args) { x.piece = n })
	}
	checkErrors(t, api.ErrUnmade, func(x *args) { x.shop.Works[0].Known = 13 })
}

// Paid has two numbers, each of which may be wrong alone.
func TestPaidWrongNumbers(t *testing.T) {
	for _, n := range wrongNumbers(1, 9) {
		if m, e := pay.Paid(shopS(), n, 10, 5); m != 0 || e != api.ErrArg {
			t.Error(n, m, e)
		}
	}
	for _, n := range wrongNumbers(1, 9999) {
		if m, e := pay.Paid(shopS(), 2, n, 5); m != 0 || e != api.ErrArg {
			t.Error(n, m, e)
		}
	}
}

// The limits of what is asked are no errors by themselves.
func TestLimitsOfArguments(t *testing.T) {
	for _, day := range []int{0, 100000} {
		for _, piece := range []int{1, 9999} {
			if _, e := pay.Maker(shopS(), piece, day); e != api.ErrUnmade {
				t.Error(piece, day, e)
			}
		}
		for _, trade := range []int{2, 9} {
			if _, e := pay.InForce(shopS(), trade, day); e != api.ErrForce {
				t.Error(trade, day, e)
			}
		}
		for _, party := range []int{0, 1, 2, 10} {
			if n, e := pay.Balance(shopS(), party, day); n != 0 || e != api.OK {
				t.Error(party, day, n, e)
			}
		}
		for _, maker := range []int{1, 9} {
			if n, e := pay.Paid(shopS(), maker, 9999, day); n != 0 || e != api.OK {
				t.Error(maker, day, n, e)
			}
		}
	}
}

// A shop of which nothing is known is valid.
func TestNothingIsKnown(t *testing.T) {
	none := args{custom: custom(1, 0, 1, 1, 0), work: work(1, 1, 1, 1, 1, 1, 1, 1, 0), claim: claim(1, 1, 1, 1, 1, 0), trade: 1, maker: 1, piece: 1}
	for _, c := range allCalls() {
		want := api.OK
		switch c.Name {
		case "InForce":
			want = api.ErrForce
		case "Maker", "Outcome", "Due":
			want = api.ErrUnmade
		case "Moved":
			want = api.ErrNone
		}
		if told := c.Run(none); told.Error != want {
			t.Error(c.Name, told)
		}
	}
}

func TestArgumentsAreNotChanged(t *testing.T) {
	for _, s := range []api.Shop{shopS(), claimedS(), fates(custom(1, 0, 1, 2, 3), 4), fullShop(12, 60, 59), largeShop()} {
		for _, source := range []int{3, 50} {
			x := right()
			x.shop, x.source, x.claim.Source = copied(s), source, 99
			// Room for what an append would write into.
			x.shop.Claims = slices.Grow(x.shop.Claims, 1)
			x.shop.Works = slices.Grow(x.shop.Works, 1)
			posts := slices.Clone(x.posts)
			for _, c := range allCalls() {
				c.Run(x)
				more := x.shop.Claims[:len(s.Claims)+1][len(s.Claims)]
				if !isSame(x.shop, s) || !slices.Equal(x.posts, posts) || more != (api.Claim{}) || x.shop.Works[:len(s.Works)+1][len(s.Works)] != (api.Work{}) {
					t.Fatal(c.Name, x)
				}
			}
		}
	}
}

// Two results of the same call share no memory.
func TestNothingIsKept(t *testing.T) {
	for _, call := range []func() []int{
		func() []int { l, _ := pay.Made(shopS(), 12); return l }, func() []int { l, _ := pay.Dates(shopS()); return l },
		func() []int { l, _ := pay.Unsettled(shopS(), 12); return l }, func() []int { l, _ := pay.Share(shopS(), 2, 5); return l },
		func() []int { l, _ := pay.Moved(shopS(), 3, 5); return l },
	} {
		l := call()
		was := slices.Clone(l)
		l[0] = -7
		if again := call(); !slices.Equal(again, was) {
			t.Error(again, was)
		}
	}
}

// Whatever the numbers are, nothing panics.
func TestStrangeArguments(t *testing.T) {
	numbers := []int{math.MinInt, math.MinInt + 1, -1, 0, 1, 5, 9, 10, 9999, 10000, 100000, 100001, math.MaxInt - 1, math.MaxInt}
	for _, n := range numbers {
		for _, m := range numbers {
			x := args{shop: claimedS(), trade: n, day: m, maker: n, piece: n, party: n, source: n, posts: []api.Post{post(m, n, n, m, n)}}
			x.custom = api.Custom{Trade: n, From: m, Basis: n, Bears: m, Rates: [5]int{n, m, n, m, n}, Second: m}
			x.work = work(n, m, n, m, n, m, n, m, n)
			x.claim = claim(n, m, n, m, n, m)
			for _, c := range allCalls() {
				c.Run(x)
			}
			x.shop.Customs, x.shop.Works, x.shop.Claims = []api.Custom{x.custom}, []api.Work{x.work}, []api.Claim{x.claim}
			for _, c := range allCalls() {
				c.Run(x)
			}
		}
	}
}
