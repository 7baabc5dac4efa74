package hatch

// A limit says that the time of the turn at index to is at least that of the
// one at index from and so much more.
type limit struct{ from, to, more int }

// apart is how far the step behind a rest may be from the step ahead of it,
// so that the rest holds however long that step takes and however late the
// clock is looked at.
func apart(jitter int, ahead step, rest bounds) bounds {
	return bounds{
		low:  jitter + ahead.takes.high + rest.low,
		high: ahead.takes.low + rest.high - jitter,
	}
}

// firstHopeless is the turn with which the first rest ends that no times can keep.
func (p parsedProtocol) firstHopeless() (turn, bool) {
	for plate, steps := range p.plates {
		for number, s := range steps {
			if !s.hasRest {
				continue
			}
			if span := apart(p.jitter, steps[number-1], s.rest); span.low > span.high {
				return p.turnOf(plate, number), true
			}
		}
	}
	return turn{}, false
}

func (p parsedProtocol) limits(order []turn) []limit {
	var all []limit
	last := make([]int, len(p.plates)) // of each plate, the index of its last turn
	for i, t := range order {
		if i > 0 {
			all = append(all, limit{i - 1, i, p.jitter + order[i-1].takes.high})
		}
		if t.hasRest {
			ahead := last[t.plate]
			span := apart(p.jitter, order[ahead].step, t.rest)
			all = append(all, limit{ahead, i, span.low}, limit{i, ahead, -span.high})
		}
		last[t.plate] = i
	}
	return all
}

// earliestTimes raises the times from 0 on until all limits hold. A time
// hangs on no more others than there are: if so many rounds are not enough,
// the limits raise each other for ever, and the order has no times.
func (p parsedProtocol) earliestTimes(order []turn) ([]int, bool) {
	all := p.limits(order)
	times := make([]int, len(order))
	for range order {
		if !raise(times, all) {
			return times, true
		}
	}
	return nil, false
}

func raise(times []int, all []limit) bool {
	raised := false
	for _, l := range all {
		if least := times[l.from] + l.more; times[l.to] < least {
			times[l.to] = least
			raised = true
		}
	}
	return raised
}
