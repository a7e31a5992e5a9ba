package store

// numbers is a heap.Interface of slots that have been used and are free: among
// very many of them, the smallest one is to be found without a search.
type numbers []int

func (n numbers) Len() int { return len(n) }

func (n numbers) Less(i int, k int) bool { return n[i] < n[k] }

func (n numbers) Swap(i int, k int) { n[i], n[k] = n[k], n[i] }

// Push is called by package heap, as Pop is.
func (n *numbers) Push(x any) { *n = append(*n, x.(int)) }

// Pop takes the last one out, not the smallest one.
func (n *numbers) Pop() any {
	last := len(*n) - 1
	x := (*n)[last]
	*n = (*n)[:last]
	return x
}
