package hatch

const (
	maxText   = 120
	maxPlates = 4
	maxSteps  = 5
	maxAll    = 9

	deadlineDigits = 4
	boundDigits    = 3
)

type bounds struct{ low, high int }

// A step holds the rest that ends with it, as it is this step's number by
// which a fault of the rest is told.
type step struct {
	takes   bounds
	hasRest bool
	rest    bounds
}

type parsedProtocol struct {
	jitter   int
	places   int
	deadline int
	plates   [][]step
}

// checked answers what the text says, or its first fault and where it is.
func checked(text string) (parsedProtocol, Errno, int) {
	if len(text) > maxText {
		return parsedProtocol{}, ErrLong, 0
	}
	parsed, place, ok := readProtocol(text)
	if !ok {
		return parsedProtocol{}, ErrForm, place
	}
	if number, found := firstWrongStep(parsed); found {
		return parsedProtocol{}, ErrRange, number
	}
	if hasTooMany(parsed) {
		return parsedProtocol{}, ErrMany, 0
	}
	return parsed, OK, 0
}

// readProtocol answers, if the text has not the form of a protocol, the
// place at which it ceases to have it, and false.
func readProtocol(text string) (parsedProtocol, int, bool) {
	r := &reader{text: text}
	var parsed parsedProtocol
	r.take('j')
	parsed.jitter = r.number(1)
	r.take('k')
	parsed.places = r.number(1)
	r.take('d')
	parsed.deadline = r.number(deadlineDigits)
	for {
		parsed.plates = append(parsed.plates, r.plate(len(parsed.plates)))
		if r.failed {
			return parsedProtocol{}, r.at, false
		}
		if r.ended() {
			return parsed, 0, true
		}
	}
}

func (r *reader) plate(number int) []step {
	r.take(';')
	r.plateLetter(number)
	r.take('=')
	steps := []step{{takes: r.takeBounds()}}
	for !r.failed {
		switch r.kind() {
		case kindJoin:
			r.take(',')
			steps = append(steps, step{takes: r.takeBounds()})
		case kindRest:
			steps = append(steps, r.restAndStep())
		default:
			return steps
		}
	}
	return steps
}

// plateLetter asks for the kind as well, since behind z no letter is left.
func (r *reader) plateLetter(number int) {
	if kind := r.kind(); kind != kindPlate && kind != kindLetter {
		r.failed = true
		return
	}
	r.take('a' + byte(number))
}

func (r *reader) restAndStep() step {
	r.take('~')
	rest := r.takeBounds()
	r.take('~')
	return step{takes: r.takeBounds(), hasRest: true, rest: rest}
}

// firstWrongStep counts the steps as they stand in the text.
func firstWrongStep(parsed parsedProtocol) (int, bool) {
	number := 0
	for _, steps := range parsed.plates {
		for _, s := range steps {
			if s.isWrong(parsed.places) {
				return number, true
			}
			number++
		}
	}
	return 0, false
}

func (s step) isWrong(places int) bool {
	if s.takes.low == 0 || s.takes.low > s.takes.high {
		return true
	}
	return s.hasRest && (places == 0 || s.rest.low > s.rest.high)
}

func hasTooMany(parsed parsedProtocol) bool {
	all := 0
	for _, steps := range parsed.plates {
		if len(steps) > maxSteps {
			return true
		}
		all += len(steps)
	}
	return len(parsed.plates) > maxPlates || all > maxAll
}
