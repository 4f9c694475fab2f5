package heat_test

import (
	"math"
	"math/rand"
	"slices"
	"testing"

	"potbank/api"
	"potbank/heat"
)

func proof(reading int, by ...int) api.HeatProof { return api.HeatProof{Reading: reading, By: by} }

func isNoProof(p api.HeatProof) bool { return p.Reading == 0 && len(p.By) == 0 }

// leastOf and mostOf say what the reading with an index tells; ok is false if there is none that does.
func leastOf(f api.Firing, i int) (n int, ok bool) {
	if i < 0 || i >= len(f.Readings) || f.Readings[i].Kind == api.Standing {
		return 0, false
	}
	return max(f.Readings[i].Mark, f.Readings[i].Heat.Lo), true
}

func mostOf(f api.Firing, i int) (n int, ok bool) {
	if i < 0 || i >= len(f.Readings) || f.Readings[i].Kind == api.Bent {
		return 0, false
	}
	return max(f.Readings[i].Mark-1, f.Readings[i].Heat.Hi), true
}

// showsMost is the chapter's definition of a proof that the heat of q is at most n.
func showsMost(f api.Firing, q, n int, p api.HeatProof) bool {
	if most, ok := mostOf(f, p.Reading); ok {
		return f.Readings[p.Reading].Place == q && most <= n && len(p.By) == 0
	}
	if p.Reading != -1 || len(p.By) != len(f.Kiln.Falls) {
		return false
	}
	for j, r := range p.By {
		u := 3000
		if r != -1 {
			b, ok := mostOf(f, r)
			if !ok {
				return false
			}
			u = b + f.Kiln.Falls[j][f.Readings[r].Place].Hi
		}
		if u-f.Kiln.Falls[j][q].Lo > n {
			return false
		}
	}
	return true
}

// showsLeast is the chapter's definition of a proof that the heat of q is at least n.
func showsLeast(f api.Firing, q, n int, p api.HeatProof) bool {
	if p.Reading == -2 {
		return len(p.By) == 1 && p.By[0] >= 0 && p.By[0] < len(f.Kiln.Falls) && -f.Kiln.Falls[p.By[0]][q].Hi >= n
	}
	a, ok := leastOf(f, p.Reading)
	if !ok {
		return false
	}
	at := f.Readings[p.Reading].Place
	if at == q {
		return a >= n && len(p.By) == 0
	}
	if len(p.By) != len(f.Kiln.Falls) {
		return false
	}
	for j, r := range p.By {
		c := a + f.Kiln.Falls[j][at].Lo
		switch b, ok := mostOf(f, r); {
		case r == -1 && c-f.Kiln.Falls[j][q].Hi >= n, r == -2 && c > 3000:
		case ok && c > b+f.Kiln.Falls[j][f.Readings[r].Place].Hi:
		default:
			return false
		}
	}
	return true
}

func shows(f api.Firing, q int, high bool, n int, p api.HeatProof) bool {
	if high {
		return showsMost(f, q, n, p)
	}
	return showsLeast(f, q, n, p)
}

func TestProveExamples(t *testing.T) {
	two := even(2, 2, span(1000, 1500))
	for _, x := range []struct {
		f     api.Firing
		place int
		high  bool
		want  api.HeatProof
		rests []int
	}{
		{firingF(), 1, true, proof(-1, 1, 2), []int{2, 3}},
		{firingF(), 1, false, proof(0, -1, 2), []int{1, 3}},
		{firingF(), 0, true, proof(1), []int{2}},
		{firingF(), 0, false, proof(0), []int{1}},
		{firing(kilnK()), 0, true, proof(-1, -1, -1), nil},
		{firing(kilnK()), 0, false, proof(-2, 0), nil},
		{firing(kilnK()), 2, false, proof(-2, 1), nil},
		{firing(two, bent(8, 0, 2000)), 1, false, proof(0, -1, -1), []int{8}},
		// The mouth 1 would need 3500.
		{firing(api.Kiln{Falls: [][]api.Range{{span(0, 9), span(0, 9)}, {span(1500, 1500), span(0, 9)}}}, bent(8, 0, 2000)), 1, false, proof(0, -1, -2), []int{8}},
		{firing(even(1, 2, span(5, 9)), standing(4, 1, 21)), 0, true, proof(-1, 0), []int{4}},
	} {
		p, e := heat.Prove(x.f, x.place, x.high)
		if p.Reading != x.want.Reading || !slices.Equal(p.By, x.want.By) || e != api.OK {
			t.Error(x, p, e)
		}
		if l, e := heat.Rests(x.f, p); !slices.Equal(l, x.rests) || e != api.OK {
			t.Error(x, l, e)
		}
	}
}

// checkProved holds a proof of each end against the chapter's definition.
func checkProved(t *testing.T, f api.Firing, place int) {
	t.Helper()
	bound, e := heat.Bound(f, place)
	if e != api.OK {
		t.Fatal(f, place, e)
	}
	for high, n := range map[bool]int{false: bound.Lo, true: bound.Hi} {
		beyond := n + 1
		if high {
			beyond = n - 1
		}
		p, e := heat.Prove(f, place, high)
		if e != api.OK || !shows(f, place, high, n, p) || shows(f, place, high, beyond, p) {
			t.Fatal(f, place, high, bound, p, e)
		}
		if e := heat.CheckProof(f, place, high, n, p); e != api.OK {
			t.Fatal(f, place, high, bound, p, e)
		}
		if e := heat.CheckProof(f, place, high, beyond, p); e != api.ErrShown {
			t.Fatal(f, place, high, bound, p, e)
		}
		checkStands(t, f, place, high, n, p)
	}
}

// checkStands tells whether a proof stands without the readings that it does not rest on.
func checkStands(t *testing.T, f api.Firing, place int, high bool, n int, p api.HeatProof) {
	t.Helper()
	rests, e := heat.Rests(f, p)
	if e != api.OK {
		t.Fatal(f, p, e)
	}
	rest := firing(f.Kiln)
	for _, r := range f.Readings {
		if slices.Contains(rests, r.Source) {
			rest.Readings = append(rest.Readings, r)
		}
	}
	bound, e := heat.Bound(rest, place)
	if e != api.OK || high && bound.Hi > n || !high && bound.Lo < n {
		t.Fatal(f, place, high, n, p, rests, bound, e)
	}
}

func TestProveOfMany(t *testing.T) {
	r := rand.New(rand.NewSource(11))
	for f := range smalls(12, 3000) {
		if is, _ := heat.Sound(f); is {
			for p := range f.Kiln.Falls[0] {
				checkProved(t, f, p)
			}
		}
	}
	for range 500 {
		f, _ := someBig(r)
		for p := range f.Kiln.Falls[0] {
			checkProved(t, f, p)
		}
	}
}

// All forms of proofs are given by Prove.
func TestFormsOfProofs(t *testing.T) {
	r := rand.New(rand.NewSource(13))
	seen := map[string]int{}
	for range 1000 {
		f, _ := someBig(r)
		for _, high := range []bool{false, true} {
			p, _ := heat.Prove(f, 0, high)
			for _, by := range p.By {
				switch {
				case p.Reading == -2:
					seen["by mouth"]++
				case high && by == -1:
					seen["to the limit"]++
				case high:
					seen["to a reading"]++
				case by == -1:
					seen["hot enough"]++
				case by == -2:
					seen["too hot"]++
				default:
					seen["too hot for a reading"]++
				}
			}
			if len(p.By) == 0 {
				seen["by a reading"]++
			}
		}
	}
	for _, form := range []string{"by mouth", "to the limit", "to a reading", "hot enough", "too hot", "too hot for a reading", "by a reading"} {
		if seen[form] < 10 {
			t.Error(form, seen)
		}
	}
}

func TestCheckProofExamples(t *testing.T) {
	// The firing need not be sound.
	f, down := falseF(), []bool{false}
	up, both := []bool{true}, []bool{false, true}
	for _, x := range []struct {
		p     api.HeatProof
		place int
		highs []bool
		n     int
		want  api.Errno
	}{
		{proof(-1, 1, 2), 1, up, 1000, api.OK}, {proof(-1, 1, 2), 1, up, 1001, api.OK}, {proof(-1, 1, 2), 1, up, math.MaxInt, api.OK},
		{proof(-1, 1, 2), 1, up, 999, api.ErrShown}, {proof(-1, 1, 2), 1, up, math.MinInt, api.ErrShown},
		{proof(-1, -1, 2), 1, up, 2700, api.OK}, {proof(-1, -1, 2), 1, up, 2699, api.ErrShown}, {proof(-1, 1, -1), 1, up, 2699, api.ErrShown},
		{proof(-1, -1, -1), 0, up, 2900, api.OK}, {proof(-1, -1, -1), 0, up, 2899, api.ErrShown}, {proof(-1, 3, 3), 1, up, 699, api.OK},
		{proof(-1, 3, 3), 1, up, 698, api.ErrShown},
		{proof(1), 0, up, 1100, api.OK}, {proof(1), 0, up, 1099, api.ErrShown}, {proof(3), 1, up, 599, api.OK},
		// A bent cone tells no greatest heat, a standing one no least.
		{proof(0), 0, up, 3000, api.ErrProof}, {proof(-1, 0, 2), 1, up, 3000, api.ErrProof}, {proof(1), 0, down, -3000, api.ErrProof},
		{proof(2, -1, -1), 1, down, -3000, api.ErrProof}, {proof(0, -1, 0), 1, down, -3000, api.ErrProof},
		// Readings at other places, and lists of another length.
		{proof(1), 1, up, 3000, api.ErrProof}, {proof(2), 1, up, 3000, api.ErrProof}, {proof(1, -1, -1), 0, up, 3000, api.ErrProof},
		{proof(1, -1, -1), 1, up, 3000, api.ErrProof}, {proof(0), 1, down, -3000, api.ErrProof}, {proof(0, -1, -1), 0, down, -3000, api.ErrProof},
		{proof(-1), 1, both, 3000, api.ErrProof}, {proof(-1, 1), 1, both, 3000, api.ErrProof}, {proof(-1, 1, 2, 2), 1, both, 3000, api.ErrProof},
		{proof(0, -1), 1, down, -3000, api.ErrProof}, {proof(0, -1, 2, 2), 1, down, -3000, api.ErrProof}, {proof(-2), 1, down, -3000, api.ErrProof},
		{proof(-2, 0, 1), 1, down, -3000, api.ErrProof},
		{proof(0, -1, 2), 1, down, 700, api.OK}, {proof(0, -1, 2), 1, down, 699, api.OK}, {proof(0, -1, 2), 1, down, math.MinInt, api.OK},
		{proof(0, -1, 2), 1, down, 701, api.ErrShown}, {proof(0, -1, 2), 1, down, math.MaxInt, api.ErrShown},
		{proof(0, -1, -1), 1, down, 700, api.OK}, {proof(0, -1, -1), 1, down, 701, api.ErrShown},
		// The mouth 0 would need 1100, which the readings 1 and 2 allow, but not 3.
		{proof(0, 1, 2), 1, down, -3000, api.ErrProof}, {proof(0, 2, 2), 1, down, -3000, api.ErrProof}, {proof(0, 3, 2), 1, down, 1200, api.OK},
		{proof(0, 3, -1), 1, down, 1200, api.OK}, {proof(0, 3, -1), 1, down, 1201, api.ErrShown},
		{proof(0, 3, 2), 1, down, math.MaxInt, api.OK}, {proof(0, -2, 2), 1, down, -3000, api.ErrProof}, {proof(0, -1, -2), 1, down, -3000, api.ErrProof},
		{proof(0), 0, down, 1000, api.OK}, {proof(0), 0, down, 1001, api.ErrShown}, {proof(-2, 0), 1, down, -400, api.OK},
		{proof(-2, 0), 1, down, -399, api.ErrShown}, {proof(-2, 1), 0, down, -800, api.OK}, {proof(-2, 1), 0, down, -799, api.ErrShown},
		{proof(-2, 0), 1, up, 3000, api.ErrProof}, {proof(-2, -1), 1, down, -3000, api.ErrProof}, {proof(-2, 2), 1, down, -3000, api.ErrProof},
		// What there is not.
		{proof(-1, 1, 4), 1, up, 3000, api.ErrProof}, {proof(-1, 1, -2), 1, up, 3000, api.ErrProof}, {proof(4), 1, both, 0, api.ErrProof},
		{proof(-3, 0, 0), 1, both, 0, api.ErrProof}, {proof(-3), 1, both, 0, api.ErrProof}, {proof(0, -1, 4), 1, down, -3000, api.ErrProof},
		{proof(0, -1, -3), 1, down, -3000, api.ErrProof}, {proof(math.MaxInt), 1, both, 0, api.ErrProof}, {proof(math.MinInt), 1, both, 0, api.ErrProof},
		{proof(-1, math.MaxInt, math.MinInt), 1, both, 0, api.ErrProof}, {proof(0, math.MaxInt, math.MinInt), 1, both, 0, api.ErrProof},
		{proof(-2, math.MaxInt), 1, both, 0, api.ErrProof}, {proof(-2, math.MinInt), 1, both, 0, api.ErrProof},
	} {
		for _, high := range x.highs {
			if e := heat.CheckProof(f, x.place, high, x.n, x.p); e != x.want {
				t.Error(x, high, e)
			}
		}
	}
}

func TestTooHotIsBeyondTheLimit(t *testing.T) {
	for fall, want := range map[int]api.Errno{1000: api.ErrProof, 1001: api.OK} {
		f := firing(even(1, 2, span(fall, fall)), bent(1, 0, 2000))
		if e := heat.CheckProof(f, 1, false, 0, proof(0, -2)); e != want {
			t.Error(fall, e)
		}
	}
	// Of a mouth that may have just as much as is needed it does not say that it may not.
	for mark, want := range map[int]api.Errno{501: api.ErrProof, 500: api.OK} {
		f := firing(even(1, 3, span(7, 7)), bent(1, 0, 500), standing(2, 2, mark))
		if e := heat.CheckProof(f, 1, false, 0, proof(0, 1)); e != want {
			t.Error(mark, e)
		}
	}
}

// someProof returns what may be a proof for a firing, of a right form more often than not.
func someProof(r *rand.Rand, f api.Firing) api.HeatProof {
	p := proof(r.Intn(len(f.Readings)+4) - 3)
	many := len(f.Kiln.Falls)
	switch n := r.Intn(10); {
	case n == 0:
		many = r.Intn(4)
	case n < 4:
		many = 0
	}
	if p.Reading == -2 && r.Intn(5) > 0 {
		many = 1
	}
	for range many {
		p.By = append(p.By, r.Intn(len(f.Readings)+3)-2)
	}
	return p
}

// checkOne holds CheckProof of a proof for all numbers against the definition, and what it shows against all fields.
func checkOne(t *testing.T, f api.Firing, all known, place int, high bool, p api.HeatProof) api.Errno {
	t.Helper()
	otherwise := api.ErrProof
	for n := -20; n <= 3020; n++ {
		if shows(f, place, high, n, p) {
			otherwise = api.ErrShown
		}
		if n == 20 {
			n = 2980
		}
	}
	for n := -10; n <= 20; n++ {
		want := otherwise
		if shows(f, place, high, n, p) {
			want = api.OK
		}
		if e := heat.CheckProof(f, place, high, n, p); e != want {
			t.Fatal(f, place, high, n, p, e, want)
		}
		for other := range all.heats[place] {
			if want == api.OK && (high && other > n || !high && other < n) {
				t.Fatal("a field has another heat", f, place, high, n, p, other)
			}
		}
	}
	return otherwise
}

func TestCheckProofOfMany(t *testing.T) {
	r := rand.New(rand.NewSource(14))
	seen := map[api.Errno]int{}
	for f := range smalls(15, 1500) {
		all := knownOf(f, warmest)
		for range 20 {
			place, high := r.Intn(len(f.Kiln.Falls[0])), r.Intn(2) == 0
			seen[checkOne(t, f, all, place, high, someProof(r, f))]++
		}
	}
	if seen[api.ErrProof] < 1000 || seen[api.ErrShown] < 1000 {
		t.Error("the cases are lopsided", seen)
	}
}

func TestRests(t *testing.T) {
	f := firing(kilnK(), bent(30, 0, 1000), standing(20, 0, 1101), standing(10, 2, 901), standing(20, 2, 950))
	for _, x := range []struct {
		p    api.HeatProof
		want []int
		e    api.Errno
	}{
		{proof(0), []int{30}, api.OK}, {proof(-1), nil, api.OK}, {proof(-2), nil, api.OK}, {proof(3), []int{20}, api.OK},
		{proof(-1, 2, 1), []int{10, 20}, api.OK}, {proof(0, 2, 1), []int{10, 20, 30}, api.OK}, {proof(0, 1, 3), []int{20, 30}, api.OK},
		{proof(0, -1, 0), []int{30}, api.OK}, {proof(-1, -1, -2), nil, api.OK}, {proof(0, -7, math.MinInt), []int{30}, api.OK},
		// The mouth is no reading.
		{proof(-2, 0), nil, api.OK}, {proof(-2, 5), nil, api.OK}, {proof(-2, math.MaxInt, -9), nil, api.OK},
		// It is not asked whether it shows anything.
		{proof(2, 0, 1, 2, 3), []int{10, 20, 30}, api.OK}, {proof(1, 0), []int{20, 30}, api.OK},
		{proof(4), nil, api.ErrProof}, {proof(-3), nil, api.ErrProof}, {proof(math.MinInt), nil, api.ErrProof}, {proof(math.MaxInt), nil, api.ErrProof},
		{proof(-3, 0, 1), nil, api.ErrProof}, {proof(0, 1, 4), nil, api.ErrProof}, {proof(-1, 4), nil, api.ErrProof}, {proof(-1, 0, math.MaxInt), nil, api.ErrProof},
		{proof(4, 0), nil, api.ErrProof},
	} {
		if l, e := heat.Rests(f, x.p); !slices.Equal(l, x.want) || e != x.e {
			t.Error(x, l, e)
		}
	}
}
