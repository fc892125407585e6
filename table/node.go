package table

// How far two sides may be out of balance: with these two numbers, one key more or less on a side is always set right by one turn.
const (
	heavy  = 3 // a side may weigh so many times the other
	double = 2 // a heavy side is turned by its inner part, if that weighs so many times the outer one
)

// node is a key with its value, the lesser keys to its left and the greater ones to its right; nil is a table's nothing.
// None is changed once it is made: so forks share them, and a range needs no copy of the table that it goes through.
type node[K Key, V any] struct {
	key         K
	value       V
	size        int // how many keys there are, here and below
	left, right *node[K, V]
}

// count: how many keys there are.
func (n *node[K, V]) count() int {
	if n == nil {
		return 0
	}
	return n.size
}

// weight: one more than the keys, so that no side weighs nothing.
func (n *node[K, V]) weight() int { return n.count() + 1 }

// find: the node of the key, nil if there is none.
func (n *node[K, V]) find(k K) *node[K, V] {
	for n != nil && n.key != k {
		if k < n.key {
			n = n.left
		} else {
			n = n.right
		}
	}
	return n
}

// rank: how many keys stand ahead of k.
func (n *node[K, V]) rank(k K) int {
	ahead := 0
	for n != nil {
		if n.key < k {
			ahead += n.left.count() + 1
			n = n.right
		} else {
			n = n.left
		}
	}
	return ahead
}

// at: the node of the key that has i keys ahead of it; there must be one.
func (n *node[K, V]) at(i int) *node[K, V] {
	for i != n.left.count() {
		if i < n.left.count() {
			n = n.left
		} else {
			i -= n.left.count() + 1
			n = n.right
		}
	}
	return n
}

// with: the same with v under k.
func (n *node[K, V]) with(k K, v V) *node[K, V] {
	switch {
	case n == nil:
		return &node[K, V]{key: k, value: v, size: 1}
	case k < n.key:
		return n.balanced(n.left.with(k, v), n.right)
	case n.key < k:
		return n.balanced(n.left, n.right.with(k, v))
	}
	return &node[K, V]{key: k, value: v, size: n.size, left: n.left, right: n.right}
}

// without: the same with nothing under k.
func (n *node[K, V]) without(k K) *node[K, V] {
	switch {
	case n == nil:
		return nil
	case k < n.key:
		return n.balanced(n.left.without(k), n.right)
	case n.key < k:
		return n.balanced(n.left, n.right.without(k))
	case n.right == nil:
		return n.left
	}
	next := n.right.at(0)
	return next.balanced(n.left, n.right.without(next.key))
}

// balanced: n's key between two sides, of which one may have a key more or less than it had in balance.
func (n *node[K, V]) balanced(left, right *node[K, V]) *node[K, V] {
	switch {
	case right.weight() > heavy*left.weight():
		if inner := right.left; inner.weight() >= double*right.right.weight() {
			return inner.between(n.between(left, inner.left), right.between(inner.right, right.right))
		}
		return right.between(n.between(left, right.left), right.right)
	case left.weight() > heavy*right.weight():
		if inner := left.right; inner.weight() >= double*left.left.weight() {
			return inner.between(left.between(left.left, inner.left), n.between(inner.right, right))
		}
		return left.between(left.left, n.between(left.right, right))
	}
	return n.between(left, right)
}

// between: n's key between the two sides as they are.
func (n *node[K, V]) between(left, right *node[K, V]) *node[K, V] {
	return &node[K, V]{key: n.key, value: n.value, size: left.count() + 1 + right.count(), left: left, right: right}
}

// walk hands the keys to yield, rising, till it answers false; it answers whether yield never did.
func (n *node[K, V]) walk(yield func(K, V) bool) bool {
	return n == nil || n.left.walk(yield) && yield(n.key, n.value) && n.right.walk(yield)
}

// walkFrom is walk over the keys that don't stand ahead of k.
func (n *node[K, V]) walkFrom(k K, yield func(K, V) bool) bool {
	if n == nil {
		return true
	}
	if n.key < k {
		return n.right.walkFrom(k, yield)
	}
	return n.left.walkFrom(k, yield) && yield(n.key, n.value) && n.right.walk(yield)
}
