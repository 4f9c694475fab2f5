package saggar_test

import (
	"math"
	"math/rand"
	"slices"
	"testing"

	"potbank/api"
	"potbank/saggar"
)

func reason(kind int, items ...int) api.Refusal { return api.Refusal{Kind: kind, Items: items} }

func areReasons(a, b api.Refusal) bool { return a.Kind == b.Kind && slices.Equal(a.Items, b.Items) }

func TestRefuseExamples(t *testing.T) {
	wide, high, heavy := item(1, 1, 5), item(1, 3, 4), item(2, 1, 5)
	narrow := low()
	narrow.Deep = 1
	weak, weaker := low(), low()
	weak.Bears, weaker.Bears = 999, 499
	for _, c := range []struct {
		s    api.Box
		l    []api.Item
		want api.Refusal
	}{
		{low(), []api.Item{high}, reason(api.TooHigh, 0)},
		{low(), slices.Repeat([]api.Item{wide}, 5), reason(api.TooMuch, 0, 1)},
		{square(), []api.Item{wide, wide}, reason(api.TooTight, 0, 1)},
		{low(), []api.Item{heavy, high, heavy, high}, reason(api.TooHigh, 1)},
		{narrow, []api.Item{heavy, wide, wide}, reason(api.TooWide, 1)},
		{narrow, []api.Item{heavy, wide, high}, reason(api.TooHigh, 2)},
		{weak, []api.Item{item(1, 1, 0), heavy, item(1, 1, 0), heavy}, reason(api.TooHeavy, 1, 3)},
		{weak, []api.Item{heavy, heavy, heavy}, reason(api.TooHeavy, 0, 1)},
		{weaker, []api.Item{item(1, 1, 0), heavy, heavy}, reason(api.TooHeavy, 1)},
		{weaker, []api.Item{heavy, item(1, 1, 0)}, reason(api.TooHeavy, 0)},
		{square(), []api.Item{wide, item(1, 1, 0), wide}, reason(api.TooTight, 0, 2)},
		{square(), []api.Item{item(1, 1, 0), wide, item(1, 1, 0), wide}, reason(api.TooMuch, 0, 1, 2, 3)},
	} {
		if r, e := saggar.Refuse(pots(), c.s, c.l); !areReasons(r, c.want) || e != api.OK {
			t.Error(c.s, c.l, r, c.want, e)
		}
		if e := saggar.CheckRefusal(pots(), c.s, c.l, c.want); e != api.OK {
			t.Error(c.s, c.l, c.want, e)
		}
	}
	for _, l := range [][]api.Item{nil, three(), {wide}} {
		if r, e := saggar.Refuse(pots(), low(), l); r.Kind != 0 || len(r.Items) != 0 || e != api.ErrNone {
			t.Error(l, r, e)
		}
	}
}

func TestCheckRefusalExamples(t *testing.T) {
	wide, high := item(1, 1, 5), item(1, 3, 4)
	l := []api.Item{wide, high, wide}
	for _, r := range []api.Refusal{reason(api.TooHigh, 1), reason(api.TooMuch, 0, 2), reason(api.TooTight, 0, 2), reason(api.TooTight, 1)} {
		if e := saggar.CheckRefusal(pots(), low(), l, r); e != api.OK {
			t.Error(r, e)
		}
	}
	for _, r := range []api.Refusal{
		{}, reason(0, 1), reason(-1, 1), reason(6, 1), reason(math.MaxInt, 1), reason(math.MinInt, 1),
		reason(api.TooHigh), reason(api.TooWide), reason(api.TooHeavy), reason(api.TooMuch), reason(api.TooTight),
		reason(api.TooHigh, 0), reason(api.TooHigh, 0, 1), reason(api.TooHigh, 1, 2), reason(api.TooHigh, 1, 1),
		reason(api.TooWide, 0), reason(api.TooHeavy, 0), reason(api.TooHeavy, 0, 1, 2),
		reason(api.TooMuch, 2, 0), reason(api.TooMuch, 0, 0), reason(api.TooMuch, 0, 1, 2), reason(api.TooMuch, 0), reason(api.TooMuch, 0, 2, 2),
		reason(api.TooMuch, 0, 3), reason(api.TooMuch, -1, 0), reason(api.TooHigh, 3), reason(api.TooHigh, -1),
		reason(api.TooTight, math.MinInt, 1), reason(api.TooTight, 1, math.MaxInt), reason(api.TooTight, 0, 1, 2), reason(api.TooTight, 2),
	} {
		if e := saggar.CheckRefusal(pots(), low(), l, r); e != api.ErrRefusal {
			t.Error(r, e)
		}
	}
	for kind := range 7 {
		if e := saggar.CheckRefusal(pots(), low(), three(), reason(kind, 0, 1, 2)); e != api.ErrRefusal {
			t.Error("what fits is not refused", kind, e)
		}
		if e := saggar.CheckRefusal(pots(), low(), nil, reason(kind)); e != api.ErrRefusal {
			t.Error(kind, e)
		}
	}
}

// subsets lists the lists of indices of so many items, strictly increasing, without the empty one.
func subsets(many int) [][]int {
	all := make([][]int, 0, 1<<many)
	for choice := 1; choice < 1<<many; choice++ {
		var items []int
		for i := range many {
			if choice>>i&1 == 1 {
				items = append(items, i)
			}
		}
		all = append(all, items)
	}
	return all
}

func some(j job, items []int) job {
	l := make([]api.Item, 0, len(items))
	for _, i := range items {
		l = append(l, j.l[i])
	}
	return job{j.w, j.s, l}
}

// fails reports of items that are not one alone what the chapter says of their kind.
func fails(kind int, j job) bool {
	weight, cells := 0, 0
	for _, x := range j.l {
		f := foot(j.w, j.s, x)
		weight += f.Weight
		cells += f.Wide * f.Deep
	}
	switch kind {
	case api.TooHeavy:
		return weight > j.s.Bears
	case api.TooMuch:
		return cells > j.s.Wide*j.s.Deep
	default:
		return len(packingsOf(j)) == 0
	}
}

// isReason reads the chapter's definition of a reason.
func isReason(j job, kind int, items []int) bool {
	if kind == api.TooHigh || kind == api.TooWide {
		if len(items) != 1 {
			return false
		}
		f := foot(j.w, j.s, j.l[items[0]])
		if kind == api.TooHigh {
			return f.High > j.s.High
		}
		return len(standsOf(j.s, f)) == 0
	}
	if !fails(kind, some(j, items)) {
		return false
	}
	for i := range items {
		if fails(kind, some(j, slices.Delete(slices.Clone(items), i, i+1))) {
			return false
		}
	}
	return true
}

// refusalOf leaves items out as the chapter says of Refuse, beginning with all.
func refusalOf(j job, kind int) []int {
	items := subsets(len(j.l))[1<<len(j.l)-2]
	if kind == api.TooHigh || kind == api.TooWide {
		i := slices.IndexFunc(items, func(i int) bool { return isReason(j, kind, []int{i}) })
		return []int{i}
	}
	for i := len(items) - 1; i >= 0; i-- {
		if rest := slices.Delete(slices.Clone(items), i, i+1); fails(kind, some(j, rest)) {
			items = rest
		}
	}
	return items
}

func TestRefusalsOfAnyItems(t *testing.T) {
	r := rand.New(rand.NewSource(7))
	var kinds [6]int
	for range 3000 {
		j := randomJob(r, 1+r.Intn(4))
		least := 0
		for kind := api.TooHigh; kind <= api.TooTight; kind++ {
			for _, items := range subsets(len(j.l)) {
				is := isReason(j, kind, items)
				e := saggar.CheckRefusal(j.w, j.s, j.l, reason(kind, items...))
				if is != (e == api.OK) || !is && e != api.ErrRefusal {
					t.Fatal(j, kind, items, is, e)
				}
				if is && least == 0 {
					least = kind
				}
			}
		}
		kinds[least]++
		_, packed := saggar.Pack(j.w, j.s, j.l)
		got, e := saggar.Refuse(j.w, j.s, j.l)
		if (least == 0) != (packed == api.OK) {
			t.Fatal(j, "is packed and refused, or neither", least, packed)
		}
		if least == 0 {
			if got.Kind != 0 || len(got.Items) != 0 || e != api.ErrNone {
				t.Fatal(j, got, e)
			}
		} else if want := reason(least, refusalOf(j, least)...); !areReasons(got, want) || e != api.OK {
			t.Fatal(j, got, want, e)
		}
	}
	for kind, many := range kinds {
		if many < 30 {
			t.Error("the cases are lopsided", kind, kinds)
		}
	}
}

func TestMostExamples(t *testing.T) {
	flat := low()
	flat.High = 50
	weak := low()
	weak.Bears = 650
	wide := api.Box{Id: 1, Wide: 6, Deep: 6, Cell: 110, High: 100, Bears: 3000}
	for _, c := range []struct {
		s    api.Box
		x    api.Item
		want int
	}{
		{square(), item(1, 1, 5), 1}, {low(), item(1, 1, 5), 1}, {low(), item(2, 1, 5), 3}, {square(), item(2, 1, 5), 4},
		{weak, item(1, 1, 0), 3}, {low(), item(1, 1, 0), 5}, {wide, item(1, 1, 0), api.MaxItems}, {wide, item(1, 1, 5), api.MaxItems},
	} {
		if n, e := saggar.Most(pots(), c.s, c.x); n != c.want || e != api.OK {
			t.Error(c, n, e)
		}
	}
	weak.Bears = 209
	for _, s := range []api.Box{flat, weak, {Id: 1, Wide: 6, Deep: 6, Cell: 10, High: 100, Bears: 3000}} {
		if n, e := saggar.Most(pots(), s, item(1, 1, 0)); n != 0 || e != api.ErrNone {
			t.Error(s, n, e)
		}
	}
}

func TestMostOfAnyItem(t *testing.T) {
	r := rand.New(rand.NewSource(8))
	var counts [api.MaxItems + 1]int
	for range 1500 {
		j := randomJob(r, 1)
		want := 0
		for many := 1; many <= api.MaxItems; many++ {
			if _, e := saggar.Pack(j.w, j.s, slices.Repeat(j.l, many)); e == api.OK {
				want = many
			}
		}
		counts[want]++
		n, e := saggar.Most(j.w, j.s, j.l[0])
		if n != want || (want > 0) != (e == api.OK) || want == 0 && e != api.ErrNone {
			t.Fatal(j, n, want, e)
		}
	}
	if slices.Min(counts[:]) < 20 {
		t.Error("the cases are lopsided", counts)
	}
}
