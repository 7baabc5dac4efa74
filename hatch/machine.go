package hatch

import (
	"strconv"
	"strings"
)

// An outcome is how the machine ended.
type outcome int

const (
	endsOpen outcome = iota // so far nothing else has ended it
	endsDone
	endsShort
	endsLong
	endsLate
	endsWindow
)

type outcomeName struct {
	text    string
	hasStep bool // the step with which the machine ended is told too
}

var outcomeNames = [...]outcomeName{
	endsOpen:   {"open", false},
	endsDone:   {"done", false},
	endsShort:  {"short", true},
	endsLong:   {"long", true},
	endsLate:   {"late", true},
	endsWindow: {"window", true},
}

// A stint is what the machine has seen of a step that has begun.
type stint struct {
	began  int
	over   int
	isOver bool
}

type machine struct {
	table     parsedTable
	script    parsedScript
	time      int
	at        int // the number of the step that is at work, or else comes next
	atWork    bool
	stints    []stint
	restBegan [maxPlates]int
}

func (m *machine) run() outcome {
	end := m.look()
	for _, further := range m.script.clock {
		if end != endsOpen {
			break
		}
		m.time += further
		end = m.look()
	}
	return end
}

// look goes back whenever a step was over or began, since the time may ask
// for more: a step that is over makes way for the next.
func (m *machine) look() outcome {
	var end outcome
again:
	switch {
	case m.atWork && m.stepIsOver():
		end = m.finish()
	case m.atWork && m.time-m.stints[m.at].began > m.table.turns[m.at].takes.high:
		return endsLong
	case m.atWork:
		return endsOpen
	case m.at == len(m.table.turns):
		return endsDone
	case m.time < m.table.turns[m.at].time:
		return endsOpen
	default:
		end = m.begin()
	}
	if end == endsOpen {
		goto again
	}
	return end
}

func (m *machine) stepIsOver() bool {
	if m.at >= len(m.script.takes) {
		return false // it never ends
	}
	return m.stints[m.at].began+m.script.takes[m.at] <= m.time
}

func (m *machine) finish() outcome {
	t := m.table.turns[m.at]
	took := m.script.takes[m.at]
	over := m.stints[m.at].began + took
	m.stints[m.at].over = over
	m.stints[m.at].isOver = true
	switch {
	case took < t.takes.low:
		return endsShort
	case took > t.takes.high:
		return endsLong
	}
	if t.beginsRest {
		m.restBegan[t.plate] = over
	}
	m.atWork = false
	m.at++
	return endsOpen
}

func (m *machine) begin() outcome {
	t := m.table.turns[m.at]
	if m.time > t.time+m.table.jitter {
		return endsLate
	}
	rested := m.time - m.restBegan[t.plate]
	if t.hasRest && (rested < t.rest.low || rested > t.rest.high) {
		return endsWindow
	}
	m.stints = append(m.stints, stint{began: m.time})
	m.atWork = true
	return endsOpen
}

func (m *machine) write(end outcome) string {
	var b strings.Builder
	b.WriteString(outcomeNames[end].text)
	if outcomeNames[end].hasStep {
		b.WriteString(" " + m.table.turns[m.at].name())
	}
	b.WriteString(";")
	for i, s := range m.stints {
		if i > 0 {
			b.WriteString(",")
		}
		b.WriteString(m.table.turns[i].name() + ":" + s.write())
	}
	return b.String()
}

func (s stint) write() string {
	text := strconv.Itoa(s.began) + "-"
	if s.isOver {
		text += strconv.Itoa(s.over)
	}
	return text
}
