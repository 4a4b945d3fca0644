package graph

import "container/heap"

// ready is the things that may come next, as a heap: the least one comes off first.
type ready []int

func (r ready) Len() int           { return len(r) }
func (r ready) Less(i, j int) bool { return r[i] < r[j] }
func (r ready) Swap(i, j int)      { r[i], r[j] = r[j], r[i] }

// Push and Pop are for the heap's own use: they work at the end of the list.
func (r *ready) Push(thing any) {
	*r = append(*r, thing.(int))
}

func (r *ready) Pop() any {
	last := len(*r) - 1
	thing := (*r)[last]
	*r = (*r)[:last]
	return thing
}

// sequence is the things in order, each behind all that it needs, up to where none may come next.
func sequence(needs [][]int) []int {
	users := usersOf(needs)
	missing := make([]int, len(needs)) // how many needs of a thing are not in order yet
	next := &ready{}
	for thing, list := range needs {
		missing[thing] = len(list)
		if len(list) == 0 {
			heap.Push(next, thing)
		}
	}
	var order []int
	for next.Len() > 0 {
		thing := heap.Pop(next).(int)
		order = append(order, thing)
		for _, user := range users[thing] {
			missing[user]--
			if missing[user] == 0 {
				heap.Push(next, user)
			}
		}
	}
	return order
}

// usersOf is, for each thing, those that need it, each as often as it does.
func usersOf(needs [][]int) [][]int {
	users := make([][]int, len(needs))
	for thing, list := range needs {
		for _, need := range list {
			users[need] = append(users[need], thing)
		}
	}
	return users
}
