package desk

import (
	"cmp"
	"slices"

	"potbank/api"
	"potbank/clay"
	"potbank/pay"
	"potbank/saggar"
	"potbank/ware"
)

// done is the answer of what sets up something.
func done() []string { return one("ok") }

func compareShapes(s, t api.Shape) int { return cmp.Compare(s.Id, t.Id) }

func compareBodies(b, c api.Body) int { return cmp.Compare(b.Id, c.Id) }

func compareCustoms(c, d api.Custom) int {
	return cmp.Or(cmp.Compare(c.Trade, d.Trade), cmp.Compare(c.From, d.From))
}

// placed returns a list, which is in order, with v in the place of its like, or at its own one; the command is refused if there would be more than most.
func placed[T any](l []T, v T, compare func(v, w T) int, most int) []T {
	i, isThere := slices.BinarySearchFunc(l, v, compare)
	if isThere {
		return slices.Replace(l, i, i+1, v)
	}
	ask(len(l) < most, api.ErrLong)
	return slices.Insert(l, i, v)
}

// added returns a list with one more; the command is refused if there would be more than most.
func added[T any](l []T, v T, most int) []T {
	ask(len(l) < most, api.ErrLong)
	return append(l, v)
}

func (a doing) shape() []string {
	var s api.Shape
	a.read(&s.Id, &s.Wide.Lo, &s.Wide.Hi, &s.Deep.Lo, &s.Deep.Hi, &s.High.Lo, &s.High.Hi, &s.Nest, &s.Weight.Lo, &s.Weight.Hi, &s.Bears)
	must(ware.CheckShape(s))
	w := &a.setting.Wares
	w.Shapes = placed(w.Shapes, s, compareShapes, api.MaxShapes)
	return done()
}

func (a doing) body() []string {
	var b api.Body
	a.read(&b.Id, &b.Shrink.Lo, &b.Shrink.Hi, &b.Loss.Lo, &b.Loss.Hi, &b.Heat.Lo, &b.Heat.Hi)
	must(ware.CheckBody(b))
	w := &a.setting.Wares
	w.Bodies = placed(w.Bodies, b, compareBodies, api.MaxBodies)
	return done()
}

func (a doing) box() []string {
	var s api.Box
	a.read(&s.Id, &s.Wide, &s.Deep, &s.Cell, &s.High, &s.Bears)
	must(saggar.CheckBox(s))
	a.setting.Box = s
	return done()
}

func (a doing) item() []string {
	var x api.Item
	a.read(&x.Shape, &x.Many, &x.Clear)
	a.setting.Items = added(a.setting.Items, x, api.MaxItems)
	return done()
}

func (a doing) saggar() []string {
	var s api.Saggar
	a.read(&s.Id, &s.Weight.Lo, &s.Weight.Hi, &s.Bears.Lo, &s.Bears.Hi, &s.High.Lo, &s.High.Hi, &s.Tilt)
	a.setting.Saggars = added(a.setting.Saggars, s, api.MaxSaggars)
	return done()
}

func (a doing) wad() []string {
	a.read(&a.setting.Wad.Lo, &a.setting.Wad.Hi)
	return done()
}

func (a doing) spot() []string {
	a.read(&a.setting.Spot.Crown, &a.setting.Spot.Lean)
	return done()
}

func (a doing) order() []string {
	var o api.Order
	a.read(&o.Id, &o.Many, &o.Heat.Lo, &o.Heat.Hi, &o.Class)
	a.setting.Orders = added(a.setting.Orders, o, api.MaxOrders)
	return done()
}

func (a doing) seat() []string {
	var s api.Seat
	a.read(&s.Heat.Lo, &s.Heat.Hi, &s.Class, &s.Holds)
	a.setting.Seats = added(a.setting.Seats, s, api.MaxSeats)
	return done()
}

func (a doing) accounts() []string {
	var s api.Store
	a.read(&s.Accounts)
	must(clay.Check(s))
	a.setting.Store = s
	return done()
}

func (a doing) move() []string {
	var m api.Move
	a.read(&m.Source, &m.Day, &m.From, &m.To, &m.Weight.Lo, &m.Weight.Hi)
	a.setting.Store = sure(clay.With(a.setting.Store, m))
	return done()
}

func (a doing) count() []string {
	var c api.Count
	a.read(&c.Source, &c.Day, &c.Account, &c.Weight.Lo, &c.Weight.Hi)
	a.setting.Store = sure(clay.Counted(a.setting.Store, c))
	return done()
}

func (a doing) custom() []string {
	var c api.Custom
	numbers := []*int{&c.Trade, &c.From, &c.Basis, &c.Bears}
	for grade := range c.Rates {
		numbers = append(numbers, &c.Rates[grade])
	}
	a.read(append(numbers, &c.Second)...)
	must(pay.CheckCustom(c))
	a.setting.Customs = placed(a.setting.Customs, c, compareCustoms, api.MaxCustoms)
	return done()
}

func (a doing) clear() []string {
	s := &a.setting
	s.Items, s.Saggars, s.Orders, s.Seats = nil, nil, nil, nil
	return done()
}
