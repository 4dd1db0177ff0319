package rank

// queue is a rank as container/heap asks of one: those that wait, who comes next ahead of all others.
type queue struct {
	*Rank
}

func (q queue) Len() int {
	return len(q.waiting)
}

func (q queue) Less(i, j int) bool {
	v, w := q.waiting[i], q.waiting[j]
	if q.weights[v-1] != q.weights[w-1] {
		return q.weights[v-1] > q.weights[w-1]
	}
	return v < w
}

func (q queue) Swap(i, j int) {
	v, w := q.waiting[i], q.waiting[j]
	q.waiting[i], q.waiting[j] = w, v
	q.places[w-1], q.places[v-1] = i+1, j+1
}

// Push lets a variable stand behind all others, which heap.Push then brings to its place.
func (q queue) Push(x any) {
	if v, ok := x.(int); ok {
		q.waiting = append(q.waiting, v)
		q.places[v-1] = len(q.waiting)
	}
}

// Pop takes the last one away, to which heap.Pop has brought the one that comes next.
func (q queue) Pop() any {
	last := len(q.waiting) - 1
	v := q.waiting[last]
	q.waiting = q.waiting[:last]
	q.places[v-1] = 0
	return v
}
