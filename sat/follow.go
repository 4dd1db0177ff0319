package sat

// follow lets hold what must by what holds, while there is fuel; it tells a clause that fails, or none.
func (q *search) follow() int {
	for q.followed < len(q.trail) && !q.isSpent() {
		l := q.trail[q.followed]
		q.followed++
		if n := q.leave(-l); n != none {
			return n
		}
	}
	return none
}

// leave goes through the clauses that watch a literal that fails: each watches another one that doesn't,
// if there is one; else the other one that it watches must hold.
func (q *search) leave(l int) int {
	list := q.watchers[place(l)]
	stay := list[:0]
	q.left--
next:
	for i, n := range list {
		clause := q.clauses[n]
		q.left--
		if clause[0] == l {
			clause[0], clause[1] = clause[1], l
		}
		if q.value(clause[0]) <= 0 {
			for k := 2; k < len(clause); k++ {
				q.left--
				if q.value(clause[k]) >= 0 {
					clause[1], clause[k] = clause[k], l
					q.watch(clause[1], n)
					continue next
				}
			}
		}
		stay = append(stay, n)
		switch q.value(clause[0]) {
		case 0:
			q.hold(clause[0], n)
		case -1:
			q.watchers[place(l)] = append(stay, list[i+1:]...)
			return n
		}
	}
	q.watchers[place(l)] = stay
	return none
}
