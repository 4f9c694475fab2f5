package desk_test

import (
	"math/rand"
	"strings"
	"testing"

	"potbank/desk"
)

func TestDesksAsTheChapterHasIt(t *testing.T) {
	tally := map[string]int{}
	for seed := range 80 {
		r := rand.New(rand.NewSource(int64(seed)))
		d, k := desk.New(), newClerk()
		for i, line := range linesOf(someScript(r, 110)) {
			c := commandOf(line)
			got, want := strings.Join(d.Do(c), "\n"), k.do(c)
			if got != want {
				t.Fatalf("%d: %s: %q, not %q", seed, line, got, want)
			}
			if strings.HasPrefix(got, "error") {
				tally[formOf(c.Kind).word+" refused"]++
			} else {
				tally[formOf(c.Kind).word]++
			}
			if i%40 == 39 && !k.isAt(d) {
				t.Fatal(seed, line)
			}
		}
		if !k.isAt(d) {
			t.Fatal(seed)
		}
	}
	for _, f := range forms() {
		if n := tally[f.word] + tally[f.word+" refused"]; n < 20 || f.kind < 50 && tally[f.word] < 20 {
			t.Error(f.word, n, tally[f.word])
		}
	}
}
