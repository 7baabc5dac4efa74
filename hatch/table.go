package hatch

import "slices"

const (
	maxTable    = 400
	tablePlaces = 10 // a digit names one of them

	timeDigits = 5
)

// A placedTurn is a turn as a table tells it: when, and from which place
// into which.
type placedTurn struct {
	turn
	time int
	from int // nowhere, if no rest ends with it
	into int // nowhere, if no rest begins behind it
}

type parsedTable struct {
	jitter int
	turns  []placedTurn
}

// looked answers what the text says, or its first fault and where it is.
func looked(text string) (parsedTable, Errno, int) {
	if len(text) > maxTable {
		return parsedTable{}, ErrLong, 0
	}
	table, place, ok := readTable(text)
	if !ok {
		return parsedTable{}, ErrForm, place
	}
	if number, found := firstNotRight(table.turns); found {
		return parsedTable{}, ErrTable, number
	}
	return table, OK, 0
}

// readTable answers, if the text has not the form of a table, the place at
// which it ceases to have it, and false.
func readTable(text string) (parsedTable, int, bool) {
	r := &reader{text: text}
	var table parsedTable
	r.take('j')
	table.jitter = r.number(1)
	for !r.failed && !r.ended() {
		table.turns = append(table.turns, r.placedTurn())
	}
	if r.failed {
		return parsedTable{}, r.at, false
	}
	return table, 0, true
}

func (r *reader) placedTurn() placedTurn {
	t := placedTurn{from: nowhere, into: nowhere}
	r.take(';')
	t.plate = r.plateNumber()
	t.number = r.number(1)
	r.take('@')
	t.time = r.number(timeDigits)
	r.take('+')
	t.takes = r.takeBounds()
	if r.kind() == kindFrom {
		r.take('<')
		t.hasRest = true
		t.from = r.number(1)
		r.take(':')
		t.rest = r.takeBounds()
	}
	if r.kind() == kindInto {
		r.take('>')
		t.beginsRest = true
		t.into = r.number(1)
	}
	return t
}

func (r *reader) plateNumber() int {
	if r.failed || r.kind() != kindPlate {
		r.failed = true
		return 0
	}
	letter := r.text[r.at]
	r.at++
	return int(letter - 'a')
}

func firstNotRight(turns []placedTurn) (int, bool) {
	done := make([]int, maxPlates)
	stays := slices.Repeat([]int{nowhere}, maxPlates) // the place of each plate
	for i, t := range turns {
		if t.number != done[t.plate] || t.isWrong(tablePlaces) || !t.fits(stays) {
			return i, true
		}
		done[t.plate]++
		stays[t.plate] = t.into
	}
	return 0, false
}

// fits leaves the turn's own plate out when it asks for a free place: it has
// left its place by then, and may come back into it.
func (t placedTurn) fits(stays []int) bool {
	if t.from != stays[t.plate] {
		return false
	}
	for plate, place := range stays {
		if plate != t.plate && t.beginsRest && place == t.into {
			return false
		}
	}
	return true
}
