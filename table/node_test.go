package table

import (
	"fmt"
	"math/rand"
	"testing"
)

// heightOf is a tree's height, counted node by node; where the heights that are kept, the two sides or the order are wrong, it says so.
func heightOf(t *testing.T, n *node[int], above, below string) int {
	t.Helper()
	if n == nil {
		return 0
	}
	if n.key <= above && above != "" || n.key >= below && below != "" {
		t.Fatalf("%q stands between %q and %q", n.key, above, below)
	}
	low, high := heightOf(t, n.low, above, n.key), heightOf(t, n.high, n.key, below)
	if low-high > 1 || high-low > 1 || n.height != 1+max(low, high) {
		t.Fatalf("%q is %d tall, its sides %d and %d", n.key, n.height, low, high)
	}
	return n.height
}

// W1: in whatever order keys come and go, none stands far down, so that no call takes long.
func TestLevel(t *testing.T) {
	const many = 300
	name := func(i int) string { return fmt.Sprintf("%03d", i) }
	r := rand.New(rand.NewSource(80))
	for _, order := range [][]int{nil, r.Perm(many), r.Perm(many), r.Perm(many)} {
		for _, falls := range []bool{false, true} {
			x := New[int]()
			at := func(i int) string {
				if falls {
					i = many - 1 - i
				}
				if order != nil {
					i = order[i]
				}
				return name(i)
			}
			for i := range many {
				x.Put(at(i), i)
				heightOf(t, x.root, "", "")
			}
			for i := range many {
				x.Delete(at(i * 7 % many))
				heightOf(t, x.root, "", "")
			}
			if x.root != nil || x.count != 0 {
				t.Fatalf("%d keys are left", x.count)
			}
		}
	}
}
