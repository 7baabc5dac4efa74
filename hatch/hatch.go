// Package hatch: timetables for one arm and a few warm places, that hold whatever the clock does: see DOC.md.
package hatch

// Errno is what a call answers: OK or the reason for a refusal.
type Errno int

const (
	OK        Errno = 0
	ErrLong   Errno = 1  // a text above its bound
	ErrForm   Errno = 2  // no protocol, no table
	ErrRange  Errno = 3  // bounds the wrong way round, or a rest without places
	ErrMany   Errno = 4  // too many plates or steps
	ErrArg    Errno = 5  // a budget that may not be
	ErrWindow Errno = 6  // a rest that cannot be kept within its bounds
	ErrNone   Errno = 7  // no order is in time
	ErrSpent  Errno = 8  // none of those that were gone through is
	ErrTable  Errno = 9  // a table that is not right
	ErrScript Errno = 10 // no script
)

// Check tells whether a text is a right protocol (P3).
func Check(protocol string) (Errno, int) {
	_, errno, place := checked(protocol)
	return errno, place
}

// Plan makes the best timetable (P4).
func Plan(protocol string, budget int) (string, bool, Errno) {
	parsed, errno, _ := checked(protocol)
	if errno != OK {
		return "", false, errno
	}
	if budget < 0 || budget > maxBudget {
		return "", false, ErrArg
	}
	if t, found := parsed.firstHopeless(); found {
		return t.name(), false, ErrWindow
	}
	best, found, more := parsed.bestTimetable(budget)
	switch {
	case found:
		return parsed.write(best), !more, OK
	case more:
		return "", false, ErrSpent
	}
	return "", false, ErrNone
}

// Look tells whether a text is a right table (P5).
func Look(table string) (Errno, int) {
	_, errno, place := looked(table)
	return errno, place
}

// Run tells what the machine does (P6).
func Run(table string, script string) (string, Errno) {
	if len(table) > maxTable || len(script) > maxScript {
		return "", ErrLong
	}
	parsed, errno, _ := looked(table)
	if errno != OK {
		return "", errno
	}
	says, ok := readScript(script)
	if !ok {
		return "", ErrScript
	}
	m := &machine{table: parsed, script: says}
	end := m.run()
	return m.write(end), OK
}
