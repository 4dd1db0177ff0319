package sat

// none is the number of no clause.
const none = -1

// variable is what is known of one.
type variable struct {
	value  int // 1 true, -1 false, 0 open
	last   int // the value that it had last
	level  int // how many literals were being tried when it got its value
	reason int // the clause that gave it, or none
	marked bool
}

func number(l int) int {
	return max(l, -l)
}

func (s *Solver) variable(l int) *variable {
	return &s.vars[number(l)-1]
}

// value is 1 if a literal holds, -1 if it fails, 0 if it is open.
func (s *Solver) value(l int) int {
	if l < 0 {
		return -s.vars[-l-1].value
	}
	return s.vars[l-1].value
}

// hold lets an open literal hold.
func (s *Solver) hold(l, reason int) {
	v := s.variable(l)
	v.value, v.level, v.reason = 1, len(s.levels), reason
	if l < 0 {
		v.value = -1
	}
	s.trail = append(s.trail, l)
}

// rise begins a further level.
func (s *Solver) rise() {
	s.levels = append(s.levels, len(s.trail))
}

// fall opens again all that came to hold behind a level.
func (s *Solver) fall(level int) {
	if level >= len(s.levels) {
		return
	}
	rest := s.levels[level]
	for _, l := range s.trail[rest:] {
		v := s.variable(l)
		v.value, v.last = 0, v.value
		s.order.Put(number(l))
	}
	s.trail = s.trail[:rest]
	s.levels = s.levels[:level]
	s.followed = rest
}
