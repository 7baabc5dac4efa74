package hatch

import (
	"regexp"
	"strconv"
	"strings"
	"testing"
)

// Here is a second way to what P6 asks: step by step through the table, with
// the times of all looks at hand.

func numbersOf(text string) []int {
	var all []int
	for _, number := range strings.FieldsFunc(text, func(r rune) bool { return r == ',' }) {
		all = append(all, atoi(number))
	}
	return all
}

func lookTimes(clock []int) []int {
	times := []int{0}
	for _, further := range clock {
		times = append(times, times[len(times)-1]+further)
	}
	return times
}

// firstLook is the number of the first look from one on that is at the time
// or later; as many as there are, if there is none.
func firstLook(looks []int, from, time int) int {
	for from < len(looks) && looks[from] < time {
		from++
	}
	return from
}

func expectedRun(table, script string) string {
	jitter := int(table[1] - '0')
	clock, durations, _ := strings.Cut(script, "/")
	looks, takes := lookTimes(numbersOf(clock)), numbersOf(durations)
	var told []string
	ends := func(how string) string { return how + ";" + strings.Join(told, ",") }
	over := make(map[string]int) // of each plate, its last step
	free := 0
	for i, s := range stepsOf(table) {
		at := firstLook(looks, free, s.time)
		if at == len(looks) {
			return ends("open")
		}
		began := looks[at]
		rested := began - over[s.plate]
		if began > s.time+jitter {
			return ends("late " + s.name)
		}
		if s.from != "" && (rested < s.min || rested > s.max) {
			return ends("window " + s.name)
		}
		told = append(told, s.name+":"+strconv.Itoa(began)+"-")
		free = len(looks)
		if i < len(takes) {
			free = firstLook(looks, at, began+takes[i])
		}
		if firstLook(looks, at, began+s.hi+1) < free {
			return ends("long " + s.name)
		}
		if free == len(looks) {
			return ends("open")
		}
		over[s.plate] = began + takes[i]
		told[i] += strconv.Itoa(over[s.plate])
		if takes[i] < s.lo {
			return ends("short " + s.name)
		}
		if takes[i] > s.hi {
			return ends("long " + s.name)
		}
	}
	return ends("done")
}

// script makes one that mostly fits the table: now and then a number is
// missing or is out of bounds.
func (c *choices) script(table string) string {
	jitter := int(table[1] - '0')
	var clock, takes []string
	for range c.below(60) {
		further := c.below(jitter + 2)
		if c.below(60) == 0 {
			further = c.below(30)
		}
		clock = append(clock, strconv.Itoa(further))
	}
	for _, s := range stepsOf(table) {
		took := s.lo + c.below(s.hi-s.lo+1)
		switch c.below(30) {
		case 0:
			took = s.lo - 1
		case 1:
			took = s.hi + 1 + c.below(3)
		}
		takes = append(takes, strconv.Itoa(took))
	}
	if len(takes) > 0 && c.below(10) == 0 {
		takes = takes[:c.below(len(takes))]
	}
	return strings.Join(clock, ",") + "/" + strings.Join(takes, ",")
}

// TestRunAgainstTheSecondWay holds Run against the second way, and what it
// tells against P8.
func TestRunAgainstTheSecondWay(t *testing.T) {
	c := new(choices)
	seen := make(map[string]int)
	for range 60000 {
		table := c.table(c.below(8), false)
		script := c.script(table)
		out := expectedRun(table, script)
		runRunCases(t, []runCase{{table, script, out, OK}})
		holdAgainstP8(t, table, script)
		how, _, _ := strings.Cut(out, ";")
		how, _, _ = strings.Cut(how, " ")
		seen[how]++
		if t.Failed() {
			return
		}
	}
	for _, how := range []string{"done", "open", "short", "long", "late", "window"} {
		if seen[how] < 1000 {
			t.Errorf("only %d runs end with %q", seen[how], how)
		}
	}
}

var (
	toldForm  = regexp.MustCompile(`\A(done|open|(short|long|late|window) ([a-d][0-9]));(([a-d][0-9]:[0-9]+-[0-9]*)(,[a-d][0-9]:[0-9]+-[0-9]*)*)?\z`)
	stintForm = regexp.MustCompile(`([a-d][0-9]):([0-9]+)-([0-9]*)`)
)

type toldStint struct {
	name        string
	began, over int
	isOver      bool
}

func stintsOf(list string) []toldStint {
	var all []toldStint
	for _, m := range stintForm.FindAllStringSubmatch(list, -1) {
		s := toldStint{name: m[1], began: atoi(m[2]), isOver: m[3] != ""}
		if s.isOver {
			s.over = atoi(m[3])
		}
		all = append(all, s)
	}
	return all
}

func holdAgainstP8(t *testing.T, table, script string) {
	t.Helper()
	out, errno := Run(table, script)
	m := toldForm.FindStringSubmatch(out)
	if errno != OK || m == nil {
		t.Fatalf("P8: Run(%q, %q) = %q, %d: not the form", table, script, out, errno)
	}
	steps, stints := stepsOf(table), stintsOf(m[4])
	fault := func(what string) { t.Errorf("P8: Run(%q, %q) = %q: %s", table, script, out, what) }
	for i, s := range stints {
		if s.name != steps[i].name {
			fault("steps not in the table's order")
		}
		if i > 0 && (!stints[i-1].isOver || stints[i-1].over > s.began) {
			fault("two steps at work at one time")
		}
	}
	switch m[2] {
	case "short", "long":
		if len(stints) == 0 || stints[len(stints)-1].name != m[3] {
			fault("not ended with the step that began last")
		}
	case "late", "window":
		if steps[len(stints)].name != m[3] {
			fault("not ended with the step that comes next")
		}
	}
	if m[1] == "done" && !isDone(table, stints) {
		fault("done, but not as the table says")
	}
}

func isDone(table string, stints []toldStint) bool {
	jitter := int(table[1] - '0')
	steps := stepsOf(table)
	if len(stints) != len(steps) {
		return false
	}
	over := make(map[string]int)
	for i, s := range steps {
		began, took := stints[i].began, stints[i].over-stints[i].began
		if !stints[i].isOver || took < s.lo || took > s.hi || began < s.time || began > s.time+jitter {
			return false
		}
		if rested := began - over[s.plate]; s.from != "" && (rested < s.min || rested > s.max) {
			return false
		}
		over[s.plate] = stints[i].over
	}
	return true
}
