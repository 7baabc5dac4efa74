package hatch

import (
	"iter"
	"slices"
)

// A turn is a step at its place in an order.
type turn struct {
	step
	plate      int
	number     int // of the step among its plate's
	beginsRest bool
}

func (t turn) name() string {
	return string([]byte{'a' + byte(t.plate), '0' + byte(t.number)})
}

// moreResting is by how many rests more are under way behind the turn than
// ahead of it: the rest that ends with it makes room for the one it begins.
func (t turn) moreResting() int {
	more := 0
	if t.hasRest {
		more--
	}
	if t.beginsRest {
		more++
	}
	return more
}

func (p parsedProtocol) turnOf(plate, number int) turn {
	steps := p.plates[plate]
	begins := number+1 < len(steps) && steps[number+1].hasRest
	return turn{step: steps[number], plate: plate, number: number, beginsRest: begins}
}

// nextTurns are the turns that may stand behind what is done, the least
// first. As long as steps are left there is one: either a rest is under way,
// which can end, or every place is free, and a protocol with rests has one.
func (p parsedProtocol) nextTurns(done []int, resting int) []turn {
	var next []turn
	for plate, steps := range p.plates {
		if done[plate] == len(steps) {
			continue
		}
		t := p.turnOf(plate, done[plate])
		if resting+t.moreResting() <= p.places {
			next = append(next, t)
		}
	}
	return next
}

// orders goes through all orders, the least first, and tells beside each
// whether another one follows. That is known ahead of making it: no
// beginning of an order is a dead end, so each turn not yet tried leads to one.
func (p parsedProtocol) orders() iter.Seq2[[]turn, bool] {
	var made []turn
	done := make([]int, len(p.plates))
	resting, untried := 0, 0

	var goOn func(yield func([]turn, bool) bool) bool
	goOn = func(yield func([]turn, bool) bool) bool {
		next := p.nextTurns(done, resting)
		if len(next) == 0 {
			return yield(slices.Clone(made), untried > 0)
		}
		for i, t := range next {
			later := len(next) - 1 - i
			untried += later
			made = append(made, t)
			done[t.plate]++
			resting += t.moreResting()
			wanted := goOn(yield)
			resting -= t.moreResting()
			done[t.plate]--
			made = made[:len(made)-1]
			untried -= later
			if !wanted {
				return false
			}
		}
		return true
	}
	return func(yield func([]turn, bool) bool) { goOn(yield) }
}
