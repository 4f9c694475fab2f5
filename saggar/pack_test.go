package saggar_test

import (
	"cmp"
	"math"
	"math/rand"
	"slices"
	"testing"

	"potbank/api"
	"potbank/saggar"
)

func TestPackExamples(t *testing.T) {
	want := []api.Stand{at(0, 0), turned(0, 2), at(1, 0)}
	if p, e := saggar.Pack(pots(), low(), three()); !slices.Equal(p, want) || e != api.OK {
		t.Error(p, e)
	}
	if n, e := saggar.Packs(pots(), low(), three()); n != 44 || e != api.OK {
		t.Error(n, e)
	}
	if e := saggar.CheckPack(pots(), low(), three(), want); e != api.OK {
		t.Error(e)
	}
	if p, e := saggar.Nth(pots(), low(), three(), 0); !slices.Equal(p, want) || e != api.OK {
		t.Error(p, e)
	}
	if p, e := saggar.Nth(pots(), low(), three(), 43); !slices.Equal(p, []api.Stand{at(1, 1), at(0, 1), at(1, 0)}) || e != api.OK {
		t.Error(p, e)
	}
	for _, n := range []int{44, -1, 999, 1000, math.MaxInt, math.MinInt} {
		if p, e := saggar.Nth(pots(), low(), three(), n); len(p) != 0 || e != api.ErrNone {
			t.Error(n, p, e)
		}
	}
}

func TestNoItemsHaveOnePacking(t *testing.T) {
	s := low()
	s.Bears = 0
	if p, e := saggar.Pack(pots(), s, nil); len(p) != 0 || e != api.OK {
		t.Error(p, e)
	}
	if n, e := saggar.Packs(pots(), s, []api.Item{}); n != 1 || e != api.OK {
		t.Error(n, e)
	}
	if p, e := saggar.Nth(pots(), s, nil, 0); len(p) != 0 || e != api.OK {
		t.Error(p, e)
	}
	if _, e := saggar.Nth(pots(), s, nil, 1); e != api.ErrNone {
		t.Error(e)
	}
	if e := saggar.CheckPack(pots(), s, nil, nil); e != api.OK {
		t.Error(e)
	}
	if e := saggar.CheckPack(pots(), s, nil, []api.Stand{at(0, 0)}); e != api.ErrPack {
		t.Error(e)
	}
}

func TestPackOfWhatDoesNotFit(t *testing.T) {
	light, flat := low(), low()
	light.Bears = 1419
	flat.High = 91
	for _, j := range []job{
		{pots(), light, three()},
		{pots(), flat, three()},
		{pots(), low(), slices.Repeat([]api.Item{item(1, 1, 5)}, 2)},
		{pots(), square(), slices.Repeat([]api.Item{item(1, 1, 5)}, 2)},
		{pots(), api.Box{Id: 1, Wide: 1, Deep: 1, Cell: 110, High: 100, Bears: 3000}, []api.Item{item(2, 1, 0)}},
	} {
		if p, e := saggar.Pack(j.w, j.s, j.l); len(p) != 0 || e != api.ErrTight {
			t.Error(j, p, e)
		}
		if n, e := saggar.Packs(j.w, j.s, j.l); n != 0 || e != api.OK {
			t.Error(j, n, e)
		}
		if p, e := saggar.Nth(j.w, j.s, j.l, 0); len(p) != 0 || e != api.ErrNone {
			t.Error(j, p, e)
		}
	}
	light.Bears, flat.High = 1420, 92
	for _, s := range []api.Box{light, flat} {
		if _, e := saggar.Pack(pots(), s, three()); e != api.OK {
			t.Error("just so much is borne, and so high fits", s, e)
		}
	}
}

func TestPacksAreAtMostMaxPacks(t *testing.T) {
	s := api.Box{Id: 1, Wide: 6, Deep: 6, Cell: 110, High: 100, Bears: 3000}
	one := item(1, 1, 0)
	for many, want := range []int{1, 36, 1000, 1000, 1000, 1000} {
		l := slices.Repeat([]api.Item{one}, many)
		if n, e := saggar.Packs(pots(), s, l); n != want || e != api.OK {
			t.Error(many, n, e)
		}
		last, e := saggar.Nth(pots(), s, l, want-1)
		if e != api.OK || saggar.CheckPack(pots(), s, l, last) != api.OK {
			t.Error(many, last, e)
		}
		if p, e := saggar.Nth(pots(), s, l, want); len(p) != 0 || e != api.ErrNone {
			t.Error(many, p, e)
		}
	}
	// Of two items, the first has 35 others beside it at each of its stands.
	if p, e := saggar.Nth(pots(), s, []api.Item{one, one}, 999); !slices.Equal(p, []api.Stand{at(4, 4), at(3, 1)}) || e != api.OK {
		t.Error(p, e)
	}
}

func TestCheckPackOfWrongStands(t *testing.T) {
	for _, p := range [][]api.Stand{
		nil,
		{at(0, 0), turned(0, 2)},
		{at(0, 0), turned(0, 2), at(1, 0), at(1, 1)},
		{at(0, 0), turned(0, 2), at(1, 2)},
		{at(0, 0), at(0, 1), at(1, 0)},
		{at(0, 0), turned(0, 2), turned(1, 0)},
		{at(0, 0), turned(1, 2), at(1, 0)},
		{at(0, 0), turned(0, 3), at(1, 0)},
		{at(0, 2), turned(0, 0), at(1, 1)},
		{at(-1, 0), turned(0, 2), at(1, 0)},
		{at(0, -1), turned(0, 2), at(1, 0)},
		{at(0, 0), turned(0, 2), at(2, 0)},
		{at(0, 0), turned(0, 2), at(math.MaxInt, 0)},
		{at(0, 0), turned(0, math.MaxInt), at(1, 0)},
		{at(math.MinInt, math.MinInt), turned(0, 2), at(1, 0)},
	} {
		if e := saggar.CheckPack(pots(), low(), three(), p); e != api.ErrPack {
			t.Error(p, e)
		}
	}
	right := []api.Stand{at(0, 0), turned(0, 2), at(1, 0)}
	for _, change := range []func(s *api.Box){
		func(s *api.Box) { s.High = 91 },
		func(s *api.Box) { s.Bears = 1419 },
	} {
		s := low()
		change(&s)
		if e := saggar.CheckPack(pots(), s, three(), right); e != api.ErrPack {
			t.Error(s, e)
		}
	}
}

func compareStands(a, b api.Stand) int {
	way := func(s api.Stand) int {
		if s.Turned {
			return 1
		}
		return 0
	}
	return cmp.Or(cmp.Compare(a.Y, b.Y), cmp.Compare(a.X, b.X), cmp.Compare(way(a), way(b)))
}

// doMeet reports whether two items cover a cell of their rows and columns both.
func doMeet(f api.Foot, p api.Stand, g api.Foot, q api.Stand) bool {
	if p.Turned {
		f.Wide, f.Deep = f.Deep, f.Wide
	}
	if q.Turned {
		g.Wide, g.Deep = g.Deep, g.Wide
	}
	return p.X < q.X+g.Wide && q.X < p.X+f.Wide && p.Y < q.Y+g.Deep && q.Y < p.Y+f.Deep
}

// packingsOf goes through all stands of all items, as the chapter defines a packing.
func packingsOf(j job) [][]api.Stand {
	var feet []api.Foot
	weight := 0
	for _, x := range j.l {
		f := foot(j.w, j.s, x)
		weight += f.Weight
		if f.High > j.s.High {
			return nil
		}
		feet = append(feet, f)
	}
	if weight > j.s.Bears {
		return nil
	}
	all := [][]api.Stand{{}}
	for _, f := range feet {
		var more [][]api.Stand
		for _, p := range all {
			for _, q := range standsOf(j.s, f) {
				free := true
				for k, o := range p {
					free = free && !doMeet(feet[k], o, f, q)
				}
				if free {
					more = append(more, slices.Concat(p, []api.Stand{q}))
				}
			}
		}
		all = more
	}
	return all
}

func TestPackingsOfAnyItems(t *testing.T) {
	r := rand.New(rand.NewSource(2))
	none, few := 0, 0
	for range 2500 {
		j := randomJob(r, r.Intn(5))
		all := packingsOf(j)
		many := min(len(all), api.MaxPacks)
		if n, e := saggar.Packs(j.w, j.s, j.l); n != many || e != api.OK {
			t.Fatal(j, n, many, e)
		}
		p, e := saggar.Pack(j.w, j.s, j.l)
		if many == 0 {
			none++
			if len(p) != 0 || e != api.ErrTight {
				t.Fatal(j, p, e)
			}
			continue
		}
		if !slices.Equal(p, all[0]) || e != api.OK {
			t.Fatal(j, p, all[0], e)
		}
		if many < api.MaxPacks {
			few++
		}
		for _, n := range []int{0, 1, many / 2, many - 1, many, r.Intn(many)} {
			p, e := saggar.Nth(j.w, j.s, j.l, n)
			if n >= many {
				if len(p) != 0 || e != api.ErrNone {
					t.Fatal(j, n, p, e)
				}
			} else if !slices.Equal(p, all[n]) || e != api.OK || saggar.CheckPack(j.w, j.s, j.l, p) != api.OK {
				t.Fatal(j, n, p, all[n], e)
			}
		}
	}
	if none < 300 || few < 300 {
		t.Error("the cases are lopsided", none, few)
	}
}

func TestCheckPackOfAnyStands(t *testing.T) {
	r := rand.New(rand.NewSource(3))
	right, wrong := 0, 0
	for range 1500 {
		j := randomJob(r, 1+r.Intn(3))
		all := packingsOf(j)
		for range 20 {
			p := make([]api.Stand, len(j.l))
			for i := range p {
				p[i] = api.Stand{Y: r.Intn(j.s.Deep+2) - 1, X: r.Intn(j.s.Wide+2) - 1, Turned: r.Intn(2) == 0}
			}
			if len(all) > 0 && r.Intn(2) == 0 {
				i := r.Intn(len(p))
				last := p[i]
				copy(p, all[r.Intn(len(all))])
				p[i] = last
			}
			is := slices.ContainsFunc(all, func(q []api.Stand) bool { return slices.Equal(p, q) })
			e := saggar.CheckPack(j.w, j.s, j.l, p)
			if is != (e == api.OK) || !is && e != api.ErrPack {
				t.Fatal(j, p, is, e)
			}
			if is {
				right++
			} else {
				wrong++
			}
		}
	}
	if right < 500 || wrong < 500 {
		t.Error("the cases are lopsided", right, wrong)
	}
}

func TestPackingsAreInOrder(t *testing.T) {
	var last []api.Stand
	for n := range 44 {
		p, e := saggar.Nth(pots(), low(), three(), n)
		if e != api.OK || saggar.CheckPack(pots(), low(), three(), p) != api.OK {
			t.Fatal(n, p, e)
		}
		if n > 0 && slices.CompareFunc(last, p, compareStands) >= 0 {
			t.Fatal(n, last, p)
		}
		last = p
	}
}

// pile is a pile as it truly is: in half millimetres, so that its middle is a whole number.
type pile struct{ left, right, front, back, clear int }

// truePile stands in the middle of its cells; its lengths are any within those of its shape.
func truePile(r *rand.Rand, j job, i int, p api.Stand) pile {
	shape, f := shapeOf(j.w, j.l[i]), foot(j.w, j.s, j.l[i])
	wide := shape.Wide.Lo + r.Intn(shape.Wide.Hi-shape.Wide.Lo+1)
	deep := shape.Deep.Lo + r.Intn(shape.Deep.Hi-shape.Deep.Lo+1)
	if p.Turned {
		wide, deep, f.Wide, f.Deep = deep, wide, f.Deep, f.Wide
	}
	middleX, middleY := (2*p.X+f.Wide)*j.s.Cell, (2*p.Y+f.Deep)*j.s.Cell
	return pile{middleX - wide, middleX + wide, middleY - deep, middleY + deep, 2 * j.l[i].Clear}
}

func areApart(a, b pile) bool {
	clear := a.clear + b.clear
	return a.right+clear <= b.left || b.right+clear <= a.left || a.back+clear <= b.front || b.back+clear <= a.front
}

func TestTrueWareIsClearOfAll(t *testing.T) {
	r := rand.New(rand.NewSource(4))
	packed := 0
	for range 3000 {
		j := randomJob(r, 1+r.Intn(4))
		p, e := saggar.Nth(j.w, j.s, j.l, r.Intn(20))
		if e != api.OK {
			continue
		}
		packed++
		var piles []pile
		weight := 0
		for i, x := range j.l {
			shape := shapeOf(j.w, x)
			high := shape.Nest
			for range x.Many {
				high += shape.High.Lo + r.Intn(shape.High.Hi-shape.High.Lo+1) - shape.Nest
				weight += shape.Weight.Lo + r.Intn(shape.Weight.Hi-shape.Weight.Lo+1)
			}
			a := truePile(r, j, i, p[i])
			if high > j.s.High || a.left < a.clear || a.front < a.clear || a.right+a.clear > 2*j.s.Wide*j.s.Cell || a.back+a.clear > 2*j.s.Deep*j.s.Cell {
				t.Fatal(j, p, i, a, high)
			}
			for _, b := range piles {
				if !areApart(a, b) {
					t.Fatal(j, p, a, b)
				}
			}
			piles = append(piles, a)
		}
		if weight > j.s.Bears {
			t.Fatal(j, weight)
		}
	}
	if packed < 500 {
		t.Error("the cases are lopsided", packed)
	}
}

func TestGreaterBoxesTakeNoLess(t *testing.T) {
	r := rand.New(rand.NewSource(5))
	for range 2000 {
		j := randomJob(r, 1+r.Intn(4))
		if _, e := saggar.Pack(j.w, j.s, j.l); e != api.OK {
			continue
		}
		s := j.s
		s.Wide += r.Intn(3)
		s.Deep += r.Intn(3)
		s.High += r.Intn(100)
		s.Bears += r.Intn(100)
		if _, e := saggar.Pack(j.w, s, j.l); e != api.OK {
			t.Fatal(j, s, e)
		}
	}
}
