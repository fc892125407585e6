package table

import (
	"math/rand"
	"testing"
)

// sound: the keys stand in order between the bounds, the sizes are right, and no side is too heavy.
func sound(n *node[int, int], low, high int) bool {
	if n == nil {
		return true
	}
	left, right := n.left.weight(), n.right.weight()
	return low < n.key && n.key < high && n.size == left+right-1 && left <= heavy*right && right <= heavy*left &&
		sound(n.left, low, n.key) && sound(n.right, n.key, high)
}

func TestNodesStayBalanced(t *testing.T) { // else a call takes as long as there are keys
	orders := map[string]func(r *rand.Rand, i int) int{
		"rising":  func(r *rand.Rand, i int) int { return i },
		"falling": func(r *rand.Rand, i int) int { return 3000 - i },
		"random":  func(r *rand.Rand, i int) int { return r.Intn(3000) },
		"inwards": func(r *rand.Rand, i int) int { return 1500 + (1500-i/2)*(i%2*2-1) },
	}
	for name, order := range orders {
		r := rand.New(rand.NewSource(11))
		m := New[int, int]()
		for i := range 3000 {
			m.Put(order(r, i), i)
			if i%5 == 4 {
				m.Cut(order(r, r.Intn(3000)))
			}
			if !sound(m.root, -1, 3002) {
				t.Fatalf("%s: put %d", name, i)
			}
		}
		for i := 0; m.Len() > 0; i++ {
			k, _, _ := m.At(r.Intn(m.Len()))
			if i%2 == 0 { // from one end too, as long sides come of that
				k, _, _ = m.At(0)
			}
			m.Cut(k)
			if !sound(m.root, -1, 3002) {
				t.Fatalf("%s: cut %d", name, i)
			}
		}
	}
}
