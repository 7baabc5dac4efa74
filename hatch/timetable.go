package hatch

import (
	"slices"
	"strconv"
	"strings"
)

const maxBudget = 1000

// nowhere is the place of a plate that does not rest.
const nowhere = -1

type timetable struct {
	order []turn
	times []int
	end   int
}

// timetableOf answers false, if the order is not in time.
func (p parsedProtocol) timetableOf(order []turn) (timetable, bool) {
	times, ok := p.earliestTimes(order)
	if !ok {
		return timetable{}, false
	}
	last := len(order) - 1
	end := times[last] + p.jitter + order[last].takes.high
	return timetable{order, times, end}, end <= p.deadline
}

// bestTimetable goes through as many orders as the budget allows. It answers
// whether one of them is in time, and whether there are more of them.
func (p parsedProtocol) bestTimetable(budget int) (best timetable, found, more bool) {
	if budget == 0 {
		return timetable{}, false, true // every protocol has an order
	}
	left := budget
	for order, follows := range p.orders() {
		table, inTime := p.timetableOf(order)
		if inTime && (!found || table.end < best.end) {
			best, found = table, true
		}
		more = follows
		left--
		if left == 0 {
			break
		}
	}
	return best, found, more
}

func (p parsedProtocol) write(table timetable) string {
	var b strings.Builder
	b.WriteString("j" + strconv.Itoa(p.jitter))
	stays := slices.Repeat([]int{nowhere}, len(p.plates)) // the place of each plate
	for i, t := range table.order {
		b.WriteString(";" + t.name() + "@" + strconv.Itoa(table.times[i]) + "+" + t.takes.write())
		if t.hasRest {
			b.WriteString("<" + strconv.Itoa(stays[t.plate]) + ":" + t.rest.write())
			stays[t.plate] = nowhere
		}
		if t.beginsRest {
			stays[t.plate] = lowestFree(stays)
			b.WriteString(">" + strconv.Itoa(stays[t.plate]))
		}
	}
	return b.String()
}

func (b bounds) write() string {
	return strconv.Itoa(b.low) + "-" + strconv.Itoa(b.high)
}

func lowestFree(stays []int) int {
	place := 0
	for slices.Contains(stays, place) {
		place++
	}
	return place
}
