package clay

import "potbank/api"

// lane is an arc with what it carries in a flow under way.
type lane struct {
	arc
	carried int
}

func (l *lane) more(n int) { l.carried += n }

func (l *lane) less(n int) { l.carried -= n }

// above returns how much more a lane may carry, and below how much less; less than 0 where it does not keep to its range yet.
func (l *lane) above() int { return l.Hi - l.carried }

func (l *lane) below() int { return l.carried - l.Lo }

// step leads from one stock to another one: along a lane, which carries more then, or against it, and it carries less.
type step struct {
	lane     *lane
	from, to api.Stock
	room     func() int
	change   func(n int)
}

func (l *lane) along() step { return step{l, l.from, l.to, l.above, l.more} }

func (l *lane) against() step { return step{l, l.to, l.from, l.below, l.less} }

// stream is a flow under way: of each stock, and outside, as much goes out as goes in.
type stream struct {
	lanes []*lane
	steps map[api.Stock][]step // by where they lead
}

// streamOf returns the stream of a net in which nothing is carried.
func streamOf(n net) stream {
	f := stream{steps: map[api.Stock][]step{}}
	for _, a := range n.arcs() {
		l := &lane{arc: a}
		f.lanes = append(f.lanes, l)
		f.steps[l.to] = append(f.steps[l.to], l.along())
		f.steps[l.from] = append(f.steps[l.from], l.against())
	}
	return f
}

// search goes back from where a step begins, by steps on other lanes that have room, until it is where that step leads. It returns, for each stock that it reached, the step by which one gets on from there.
// It goes breadth first, so that few ways are filled until none is left, whatever the weights are.
func (f stream) search(last step) map[api.Stock]step {
	reached := map[api.Stock]step{last.from: last}
	queue := []api.Stock{last.from}
back:
	for len(queue) > 0 {
		at := queue[0]
		queue = queue[1:]
		for _, s := range f.steps[at] {
			if _, was := reached[s.from]; was || s.lane == last.lane || s.room() <= 0 {
				continue
			}
			reached[s.from] = s
			if s.from == last.to {
				break back
			}
			queue = append(queue, s.from)
		}
	}
	return reached
}

// circle returns the steps by which one gets on from a stock until one is there again.
func circle(reached map[api.Stock]step, start api.Stock) []step {
	first := reached[start]
	steps := []step{first}
	for at := first.to; at != start; {
		s := reached[at]
		steps = append(steps, s)
		at = s.to
	}
	return steps
}

// drive takes a step with so much, in circles, or with as much of it as gets around. Where not all does, it returns what a search from the step still reaches: what leads there is full, and what leads away is as empty as may be.
func (f stream) drive(last step, many int) map[api.Stock]step {
	for many > 0 {
		reached := f.search(last)
		if _, is := reached[last.to]; !is {
			return reached
		}
		steps := circle(reached, last.to)
		var rooms []int
		for _, s := range steps {
			rooms = append(rooms, s.room())
		}
		n := least(many, rooms...)
		for _, s := range steps {
			s.change(n)
		}
		many -= n
	}
	return nil
}

// push lets a lane carry as much as it can, if high is true, and otherwise as little; it returns what drive does.
func (f stream) push(l *lane, high bool) map[api.Stock]step {
	s := l.against()
	if high {
		s = l.along()
	}
	return f.drive(s, s.room())
}
