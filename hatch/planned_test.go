package hatch

import (
	"strconv"
	"strings"
	"testing"
)

// A pace says how far the clock goes on, by 1 to J + 1, from a time, if the
// next step is due at another.
type pace struct {
	name    string
	further func(c *choices, jitter, time, due int) int
}

var paces = []pace{
	{"slow", func(_ *choices, _, _, _ int) int { return 1 }},
	{"quick", func(_ *choices, jitter, _, _ int) int { return jitter + 1 }},
	{"any", func(c *choices, jitter, _, _ int) int { return 1 + c.below(jitter+1) }},
	// a look just ahead of each step's time, and then as late as may be
	{"latest", func(_ *choices, jitter, time, due int) int {
		if time < due-1 {
			return min(jitter+1, due-1-time)
		}
		return jitter + 1
	}},
}

type length struct {
	name string
	of   func(c *choices, s tableStep) int
}

var lengths = []length{
	{"shortest", func(_ *choices, s tableStep) int { return s.lo }},
	{"longest", func(_ *choices, s tableStep) int { return s.hi }},
	{"any", func(c *choices, s tableStep) int { return s.lo + c.below(s.hi-s.lo+1) }},
}

func endOf(table string) int {
	steps := stepsOf(table)
	last := steps[len(steps)-1]
	return last.time + int(table[1]-'0') + last.hi
}

// dueBehind is the least time of a step that is above the time.
func dueBehind(steps []tableStep, time int) int {
	for _, s := range steps {
		if s.time > time {
			return s.time
		}
	}
	return time
}

// scriptFor goes on until the table's END, and no further than it must.
func (c *choices) scriptFor(table string, p pace, l length) string {
	steps := stepsOf(table)
	end := endOf(table)
	var clock, takes []string
	for time := 0; time < end; {
		further := p.further(c, int(table[1]-'0'), time, dueBehind(steps, time))
		further = min(further, end-time)
		clock = append(clock, strconv.Itoa(further))
		time += further
	}
	for _, s := range steps {
		takes = append(takes, strconv.Itoa(l.of(c, s)))
	}
	return strings.Join(clock, ",") + "/" + strings.Join(takes, ",")
}

func holdAgainstP7(t *testing.T, c *choices, table string) (tooLong int) {
	t.Helper()
	if errno, place := Look(table); errno != OK || place != 0 {
		t.Errorf("P5: Look(%q) = %d, %d, but Plan tells it", table, errno, place)
	}
	for _, p := range paces {
		for _, l := range lengths {
			script := c.scriptFor(table, p, l)
			if len(script) > maxScript {
				tooLong++
				continue
			}
			out, errno := Run(table, script)
			if errno != OK || !strings.HasPrefix(out, "done;") || !isDone(table, stintsOf(out)) {
				t.Errorf("P7: Run(%q, %q) = %q, %d (%s clock, %s steps)", table, script, out, errno, p.name, l.name)
			}
		}
	}
	return tooLong
}

func TestPlannedTimetablesAreDone(t *testing.T) {
	c := new(choices)
	for _, protocol := range []string{
		"j1k1d99;a=2-3~5-9~4-4;b=1-1",
		"j0k0d8;a=2-3,1-1;b=4-4",
		"j0k1d99;a=1-1~0-0~1-1;b=9-9",
		"j0k2d99;a=1-1~9-9~1-1;b=1-1~9-9~1-1",
		"j0k2d99;a=1-1~3-3~1-1;b=5-5~1-2~9-9",
		"j9k1d999;a=1-9~0-26~1-9~0-26~1-9",
		"j9k4d999;a=5-5~10-30~5-5;b=5-5~10-60~5-5;c=5-5~10-90~5-5;d=5-5~10-99~5-5,1-1",
		"j0k0d999;a=300-300",
	} {
		table, _, errno := Plan(protocol, 1000)
		if errno != OK {
			t.Fatalf("P4: Plan(%q) tells %d", protocol, errno)
		}
		if holdAgainstP7(t, c, table) > 0 {
			t.Errorf("P7: a script for %q is too long", table)
		}
	}
}

// TestManyPlannedTimetablesAreDone also takes the timetables that a small
// budget finds, which are not the best.
func TestManyPlannedTimetablesAreDone(t *testing.T) {
	c := new(choices)
	planned, tooLong := 0, 0
	for range 1500 {
		protocol := "j" + strconv.Itoa(c.below(4)) + "k" + strconv.Itoa(1+c.below(3)) + "d9999"
		for i, text := range c.plates() {
			protocol += ";" + string(rune('a'+i)) + "=" + text
		}
		for _, budget := range []int{1, 3, 1000} {
			table, _, errno := Plan(protocol, budget)
			if errno != OK {
				continue
			}
			planned++
			tooLong += holdAgainstP7(t, c, table)
			if t.Failed() {
				return
			}
		}
	}
	if planned < 300 || tooLong > planned {
		t.Errorf("of %d timetables %d scripts were too long", planned, tooLong)
	}
}

// TestJustOutOfThePromise: a script that breaks one of P7's conditions by one
// is not promised anything, and here it does not end done. (The last row
// keeps them.)
func TestJustOutOfThePromise(t *testing.T) {
	runRunCases(t, []runCase{
		// the clock goes on by J + 2, over a0's window
		{"j1;a0@2+1-1;b0@9+1-1", "1,3/1,1", "late a0;", OK},
		// it stops one ahead of the END, 16
		{"j1;a0@0+2-3>0;a1@9+4-4<0:5-9;b0@14+1-1", "1,1,1,1,1,1,1,1,2,2,1,2/3,4,1", "open;a0:0-3,a1:10-14,b0:15-", OK},
		{"j1;a0@0+2-3>0;a1@9+4-4<0:5-9;b0@14+1-1", "1,1,1,1,1,1,1,1,2,2,1,2,1/3,4,1", "done;a0:0-3,a1:10-14,b0:15-16", OK},
	})
}
