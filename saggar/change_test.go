package saggar_test

import (
	"math"
	"math/rand"
	"slices"
	"testing"

	"potbank/api"
	"potbank/saggar"
)

// areRows reports whether lists of lists are equal, nil or empty.
func areRows(a, b [][]int) bool {
	return slices.EqualFunc(a, b, func(x, y []int) bool { return slices.Equal(x, y) })
}

func TestGridAndFreeExamples(t *testing.T) {
	p := []api.Stand{at(0, 0), turned(0, 2), at(1, 0)}
	if g, e := saggar.Grid(pots(), low(), three(), p); !areRows(g, [][]int{{1, 1, 2}, {3, 0, 2}}) || e != api.OK {
		t.Error(g, e)
	}
	if n, e := saggar.Free(pots(), low(), three(), p); n != 1 || e != api.OK {
		t.Error(n, e)
	}
	if g, e := saggar.Grid(pots(), low(), nil, nil); !areRows(g, [][]int{{0, 0, 0}, {0, 0, 0}}) || e != api.OK {
		t.Error(g, e)
	}
	if n, e := saggar.Free(pots(), low(), nil, nil); n != 6 || e != api.OK {
		t.Error(n, e)
	}
}

func TestAddExamples(t *testing.T) {
	p := []api.Stand{at(0, 0), turned(0, 2), at(1, 0)}
	if q, e := saggar.Add(pots(), low(), three(), p, item(1, 1, 0)); q != at(1, 1) || e != api.OK {
		t.Error(q, e)
	}
	if q, e := saggar.Add(pots(), low(), nil, nil, item(2, 1, 5)); q != at(0, 0) || e != api.OK {
		t.Error(q, e)
	}
	tall := api.Wares{Shapes: []api.Shape{bowl(), dish(), {Id: 3, Wide: span(60, 60), Deep: span(200, 200)}}}
	if q, e := saggar.Add(tall, low(), three()[:2], p[:2], item(3, 1, 0)); q != turned(1, 0) || e != api.OK {
		t.Error(q, e)
	}
	for _, x := range []api.Item{item(2, 1, 5), item(1, 3, 0), item(1, 5, 0)} {
		if q, e := saggar.Add(pots(), low(), three(), p, x); q != (api.Stand{}) || e != api.ErrTight {
			t.Error(x, q, e)
		}
	}
	s := low()
	s.Bears = 1420 + 209
	if q, e := saggar.Add(pots(), s, three(), p, item(1, 1, 0)); q != (api.Stand{}) || e != api.ErrTight {
		t.Error("it is too heavy", q, e)
	}
	s.Bears++
	if q, e := saggar.Add(pots(), s, three(), p, item(1, 1, 0)); q != at(1, 1) || e != api.OK {
		t.Error(q, e)
	}
}

func TestAddToMaxItems(t *testing.T) {
	l := slices.Repeat([]api.Item{item(1, 1, 0)}, api.MaxItems)
	p := []api.Stand{at(0, 0), at(0, 1), at(0, 2), at(1, 0), at(1, 1)}
	if q, e := saggar.Add(pots(), low(), l, p, item(1, 1, 0)); q != (api.Stand{}) || e != api.ErrLong {
		t.Error(q, e)
	}
	if q, e := saggar.Add(pots(), low(), l, p, item(1, 6, 0)); q != (api.Stand{}) || e != api.ErrItem {
		t.Error("what the item is comes first", q, e)
	}
	if q, e := saggar.Add(pots(), low(), l, p[1:], item(1, 1, 0)); q != (api.Stand{}) || e != api.ErrPack {
		t.Error(q, e)
	}
	if q, e := saggar.Add(pots(), low(), l[1:], p[1:], item(1, 1, 0)); q != at(0, 0) || e != api.OK {
		t.Error(q, e)
	}
}

func TestTakeExamples(t *testing.T) {
	l, p := three(), []api.Stand{at(0, 0), turned(0, 2), at(1, 0)}
	m, q, e := saggar.Take(pots(), low(), l, p, 1)
	if !slices.Equal(m, []api.Item{l[0], l[2]}) || !slices.Equal(q, []api.Stand{p[0], p[2]}) || e != api.OK {
		t.Error(m, q, e)
	}
	m[1], q[1] = api.Item{}, api.Stand{}
	if !slices.Equal(l, three()) || p[2] != at(1, 0) {
		t.Error("what is returned is not new memory", l, p)
	}
	for _, i := range wrongNumbers(0, 2) {
		if m, q, e := saggar.Take(pots(), low(), l, p, i); len(m) != 0 || len(q) != 0 || e != api.ErrArg {
			t.Error(i, m, q, e)
		}
	}
	for _, i := range []int{0, math.MaxInt} {
		if m, q, e := saggar.Take(pots(), low(), nil, nil, i); len(m) != 0 || len(q) != 0 || e != api.ErrArg {
			t.Error(i, m, q, e)
		}
	}
}

func TestChangesOfAnyPacking(t *testing.T) {
	r := rand.New(rand.NewSource(6))
	added, full := 0, 0
	for range 6000 {
		j := randomJob(r, 2+r.Intn(3))
		x := j.l[len(j.l)-1]
		less := job{j.w, j.s, j.l[:len(j.l)-1]}
		p, e := saggar.Nth(less.w, less.s, less.l, r.Intn(30))
		if e != api.OK {
			continue
		}
		checkGrid(t, less, p)
		checkTake(t, less, p)
		var want api.Stand
		found := false
		for _, q := range standsOf(j.s, foot(j.w, j.s, x)) {
			if !found && saggar.CheckPack(j.w, j.s, j.l, slices.Concat(p, []api.Stand{q})) == api.OK {
				want, found = q, true
			}
		}
		q, e := saggar.Add(less.w, less.s, less.l, p, x)
		if q != want || found != (e == api.OK) || !found && e != api.ErrTight {
			t.Fatal(j, p, q, want, e)
		}
		if found {
			added++
		} else {
			full++
		}
	}
	if added < 300 || full < 300 {
		t.Error("the cases are lopsided", added, full)
	}
}

func checkGrid(t *testing.T, j job, p []api.Stand) {
	t.Helper()
	want := make([][]int, j.s.Deep)
	free := 0
	for y := range want {
		want[y] = make([]int, j.s.Wide)
		for x := range want[y] {
			for i := range p {
				if doMeet(foot(j.w, j.s, j.l[i]), p[i], api.Foot{Wide: 1, Deep: 1}, at(y, x)) {
					want[y][x] = i + 1
				}
			}
			if want[y][x] == 0 {
				free++
			}
		}
	}
	if g, e := saggar.Grid(j.w, j.s, j.l, p); !areRows(g, want) || e != api.OK {
		t.Fatal(j, p, g, want, e)
	}
	if n, e := saggar.Free(j.w, j.s, j.l, p); n != free || e != api.OK {
		t.Fatal(j, p, n, free, e)
	}
}

func checkTake(t *testing.T, j job, p []api.Stand) {
	t.Helper()
	for i := range p {
		l, q, e := saggar.Take(j.w, j.s, j.l, p, i)
		if e != api.OK || saggar.CheckPack(j.w, j.s, l, q) != api.OK {
			t.Fatal(j, p, i, l, q, e)
		}
		if !slices.Equal(slices.Insert(l, i, j.l[i]), j.l) || !slices.Equal(slices.Insert(q, i, p[i]), p) {
			t.Fatal(j, p, i, l, q)
		}
	}
}
