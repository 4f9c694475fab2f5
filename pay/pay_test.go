package pay_test

import (
	"slices"
	"testing"

	"potbank/api"
	"potbank/pay"
)

// with returns a copy of a value that is changed.
func with[T any](v T, change func(v *T)) T {
	change(&v)
	return v
}

// withNumber returns copies of a value whose number is not from lo to hi.
func withNumber[T any](v T, lo, hi int, of func(v *T) *int) []T {
	var l []T
	for _, n := range wrongNumbers(lo, hi) {
		l = append(l, with(v, func(v *T) { *of(v) = n }))
	}
	return l
}

func rightCustoms() []api.Custom {
	l := []api.Custom{
		custom(1, 0, 1, 1, 0), custom(9, 100000, 3, 3, 1000), custom(2, 5, 2, 2, 77),
		{Trade: 1, Basis: 1, Bears: 1}, {Trade: 1, Basis: 1, Bears: 1, Rates: [5]int{100000, 100000, 100000, 100000, 100000}},
	}
	for basis := 1; basis <= 3; basis++ {
		for bears := 1; bears <= 3; bears++ {
			l = append(l, custom(3, 4, basis, bears, 500))
		}
	}
	return l
}

func wrongCustoms() []api.Custom {
	c := custom(1, 5, 2, 3, 500)
	l := slices.Concat([]api.Custom{{}},
		withNumber(c, 1, 9, func(c *api.Custom) *int { return &c.Trade }),
		withNumber(c, 0, 100000, func(c *api.Custom) *int { return &c.From }),
		withNumber(c, 1, 3, func(c *api.Custom) *int { return &c.Basis }),
		withNumber(c, 1, 3, func(c *api.Custom) *int { return &c.Bears }),
		withNumber(c, 0, 1000, func(c *api.Custom) *int { return &c.Second }))
	for grade := range 5 {
		l = append(l, withNumber(c, 0, 100000, func(c *api.Custom) *int { return &c.Rates[grade] })...)
	}
	return l
}

func TestCheckCustom(t *testing.T) {
	for _, c := range rightCustoms() {
		if e := pay.CheckCustom(c); e != api.OK {
			t.Error(c, e)
		}
	}
	for _, c := range wrongCustoms() {
		if e := pay.CheckCustom(c); e != api.ErrCustom {
			t.Error(c, e)
		}
	}
}

func rightWorks() []api.Work {
	return []api.Work{
		work(1, 1, 1, 1, 1, 0, 0, 0, 0), work(99999, 9960, 40, 9, 9, 4, 100000, 100000, 0), work(5, 9999, 1, 2, 3, 4, 5, 6, 7),
		work(5, 1, 40, 2, 3, 4, 5, 0, 1), work(5, 1, 40, 2, 3, 4, 5, 99999, 100000), work(5, 1, 40, 2, 3, 4, 9, 3, 100000),
	}
}

// spans lists wrong days from which on, and up to which, something counts.
func spans() [][2]int {
	l := [][2]int{{3, 3}, {3, 2}, {3, 1}, {0, -1}, {3, 100001}, {100000, 100000}, {100000, 100001}, {100001, 100002}, {-1, 0}, {-1, 5}, {-5, -3}, {100001, 0}}
	for _, n := range wrongNumbers(0, 100000) {
		l = append(l, [2]int{n, 0}, [2]int{n, 9}, [2]int{3, n})
	}
	return l
}

// firsts lists wrong pieces: the first one, and how many.
func firsts() [][2]int {
	l := [][2]int{{9999, 2}, {9961, 40}, {9990, 11}, {0, 0}, {0, 5}, {1, 0}}
	for _, n := range wrongNumbers(1, 9999) {
		l = append(l, [2]int{n, 1}, [2]int{n, 40})
	}
	for _, n := range wrongNumbers(1, 40) {
		l = append(l, [2]int{1, n}, [2]int{9999, n})
	}
	return l
}

func wrongWorks() []api.Work {
	x := work(5, 10, 3, 2, 1, 2, 7, 3, 9)
	l := slices.Concat([]api.Work{{}},
		withNumber(x, 1, 99999, func(x *api.Work) *int { return &x.Source }),
		withNumber(x, 1, 9, func(x *api.Work) *int { return &x.Maker }),
		withNumber(x, 1, 9, func(x *api.Work) *int { return &x.Trade }),
		withNumber(x, 0, 4, func(x *api.Work) *int { return &x.Grade }),
		withNumber(x, 0, 100000, func(x *api.Work) *int { return &x.Day }))
	for _, d := range spans() {
		l = append(l, with(x, func(x *api.Work) { x.Known, x.Until = d[0], d[1] }))
	}
	for _, f := range firsts() {
		l = append(l, with(x, func(x *api.Work) { x.First, x.Many = f[0], f[1] }))
	}
	return l
}

func TestCheckWork(t *testing.T) {
	for _, x := range rightWorks() {
		if e := pay.CheckWork(x); e != api.OK {
			t.Error(x, e)
		}
	}
	for _, x := range wrongWorks() {
		if e := pay.CheckWork(x); e != api.ErrWork {
			t.Error(x, e)
		}
	}
}

func wrongClaims() []api.Claim {
	c := claim(5, 10, 3, 2, 3, 9)
	l := slices.Concat([]api.Claim{{}},
		withNumber(c, 1, 99999, func(c *api.Claim) *int { return &c.Source }),
		withNumber(c, 1, 9, func(c *api.Claim) *int { return &c.Maker }))
	for _, d := range spans() {
		l = append(l, with(c, func(c *api.Claim) { c.Known, c.Until = d[0], d[1] }))
	}
	for _, f := range firsts() {
		l = append(l, with(c, func(c *api.Claim) { c.First, c.Many = f[0], f[1] }))
	}
	return l
}

func TestCheckClaim(t *testing.T) {
	for _, c := range []api.Claim{
		claim(1, 1, 1, 1, 0, 0), claim(99999, 9960, 40, 9, 100000, 0), claim(5, 9999, 1, 2, 6, 7), claim(5, 1, 40, 2, 0, 1),
		claim(5, 1, 40, 2, 99999, 100000),
	} {
		if e := pay.CheckClaim(c); e != api.OK {
			t.Error(c, e)
		}
	}
	for _, c := range wrongClaims() {
		if e := pay.CheckClaim(c); e != api.ErrClaim {
			t.Error(c, e)
		}
	}
}

// fullShop returns a shop with so many customs, works and claims.
func fullShop(customs, works, claims int) api.Shop {
	var s api.Shop
	for i := range customs {
		s.Customs = append(s.Customs, custom(1+i/3, i%3, 1, 1, 0))
	}
	for i := range works {
		s.Works = append(s.Works, work(i+1, 1, 1, 1, 1, 1, 1, 1, 0))
	}
	for i := range claims {
		s.Claims = append(s.Claims, claim(i+1, 1, 1, 1, 1, 0))
	}
	return s
}

func rightShops() []api.Shop {
	bowl := api.Shape{Id: 7, Wide: span(100, 102), Deep: span(100, 102), High: span(50, 51), Nest: 10, Weight: span(200, 210), Bears: 1000}
	return []api.Shop{
		{}, shopS(), fullShop(12, 60, 60), {Wares: api.Wares{Shapes: []api.Shape{bowl}}}, {Customs: rightCustoms()[:2]},
		{Customs: []api.Custom{custom(1, 5, 1, 1, 0), custom(1, 6, 1, 1, 0), custom(2, 0, 1, 1, 0), custom(3, 0, 1, 1, 0)}},
		// A work, a claim and an event may have one source, and works the same pieces.
		{Events: shopS().Events, Works: []api.Work{rightWorks()[0], with(rightWorks()[0], func(x *api.Work) { x.Source = 2 })}, Claims: []api.Claim{claim(1, 1, 1, 1, 0, 0)}},
	}
}

// wrongShops lists shops of which one thing is wrong.
func wrongShops() []api.Shop {
	l := []api.Shop{fullShop(13, 0, 0), fullShop(0, 61, 0), fullShop(0, 0, 61), {Wares: api.Wares{Bodies: make([]api.Body, 1)}}, {Wares: api.Wares{Shapes: make([]api.Shape, 1)}}}
	one, two := custom(1, 5, 1, 1, 0), custom(2, 4, 1, 1, 0)
	for _, customs := range [][]api.Custom{{one, one}, {two, one}, {one, two, two}, {with(one, func(c *api.Custom) { c.From = 6 }), one}, {one, with(one, func(c *api.Custom) { c.Basis = 2 })}} {
		l = append(l, api.Shop{Customs: customs})
	}
	for _, c := range wrongCustoms() {
		l = append(l, api.Shop{Customs: []api.Custom{c}}, api.Shop{Customs: []api.Custom{c, custom(9, 100000, 1, 1, 1)}}, api.Shop{Customs: []api.Custom{custom(1, 0, 1, 1, 1), c}})
	}
	for _, x := range wrongWorks() {
		l = append(l, api.Shop{Works: []api.Work{x}}, api.Shop{Works: []api.Work{work(1, 1, 1, 1, 1, 1, 1, 1, 0), x}})
	}
	for _, c := range wrongClaims() {
		l = append(l, api.Shop{Claims: []api.Claim{c}}, api.Shop{Claims: []api.Claim{claim(1, 1, 1, 1, 1, 0), c}})
	}
	for _, sources := range [][]int{{5, 5}, {5, 4}, {1, 3, 2}, {1, 2, 2}} {
		var s, u api.Shop
		for i, source := range sources {
			s.Works = append(s.Works, work(source, 1+i, 1, 1, 1, 1, 1, 1, 0))
			u.Claims = append(u.Claims, claim(source, 1+i, 1, 1, 1, 0))
		}
		l = append(l, s, u)
	}
	event := shopS().Events[3]
	return append(l, api.Shop{Events: []api.Event{event, event}}, api.Shop{Events: make([]api.Event, 1)}, api.Shop{Events: slices.Repeat([]api.Event{event}, 61)})
}

func TestCheck(t *testing.T) {
	for _, s := range rightShops() {
		if e := pay.Check(s); e != api.OK {
			t.Error(s, e)
		}
	}
	for _, s := range wrongShops() {
		if e := pay.Check(s); e != api.ErrShop {
			t.Error(s, e)
		}
	}
}

func TestClaimed(t *testing.T) {
	s := shopS()
	for _, c := range []api.Claim{claim(40, 1, 1, 1, 1, 0), claim(20, 2, 2, 2, 2, 3), claim(60, 3, 3, 3, 3, 0), claim(50, 10, 1, 4, 4, 0), claim(1, 5, 5, 5, 5, 0), claim(99999, 1, 1, 1, 1, 0)} {
		want := copied(s)
		want.Claims = append(want.Claims, c)
		slices.SortFunc(want.Claims, func(c, d api.Claim) int { return c.Source - d.Source })
		got, e := pay.Claimed(s, c)
		if e != api.OK || !isSame(got, want) {
			t.Fatal(c, got, e)
		}
		s = got
	}
	if len(s.Claims) != 6 {
		t.Error(s.Claims)
	}
}

func TestClaimedErrors(t *testing.T) {
	for _, c := range wrongClaims() {
		if s, e := pay.Claimed(shopS(), c); !isSame(s, api.Shop{}) || e != api.ErrClaim {
			t.Error(c, s, e)
		}
	}
	two := claimed(shopS(), claim(3, 1, 1, 1, 1, 0), claim(5, 1, 1, 1, 1, 0))
	for _, source := range []int{3, 5} {
		if s, e := pay.Claimed(two, claim(source, 2, 1, 1, 1, 0)); !isSame(s, api.Shop{}) || e != api.ErrClaim {
			t.Error(source, s, e)
		}
		if s, e := pay.Claimed(two, claim(source, 1, 1, 1, 1, 0)); !isSame(s, api.Shop{}) || e != api.ErrClaim {
			t.Error("the same claim again", source, s, e)
		}
	}
	full := fullShop(0, 0, 60)
	if s, e := pay.Claimed(full, claim(61, 1, 1, 1, 1, 0)); !isSame(s, api.Shop{}) || e != api.ErrLong {
		t.Error(s, e)
	}
	if s, e := pay.Claimed(full, claim(60, 1, 1, 1, 1, 0)); !isSame(s, api.Shop{}) || e != api.ErrClaim {
		t.Error(s, e)
	}
	if s, e := pay.Claimed(fullShop(0, 60, 59), claim(60, 1, 1, 1, 1, 0)); len(s.Claims) != 60 || e != api.OK {
		t.Error(s, e)
	}
}

// What Claimed returns shares no memory with its argument, even where that has room for more.
func TestClaimedMemory(t *testing.T) {
	s := fullShop(2, 2, 2)
	s.Wares, s.Events = shopS().Wares, shopS().Events
	s.Wares.Shapes = slices.Clone(rightShops()[3].Wares.Shapes)
	s.Claims = slices.Grow(s.Claims, 9)
	was := copied(s)
	u := claimed(s, claim(3, 1, 1, 1, 1, 0))
	u.Wares.Shapes[0].Id, u.Wares.Bodies[0].Id, u.Events[0].Day = 9, 9, 9
	u.Customs[0].From, u.Works[0].Day, u.Claims[0].Many = 9, 9, 9
	if !isSame(s, was) || s.Claims[:3][2] != (api.Claim{}) {
		t.Error(s)
	}
}
