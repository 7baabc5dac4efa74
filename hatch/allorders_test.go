package hatch

import (
	"slices"
	"strconv"
	"strings"
	"testing"
)

// Here is a second way to all that P4 asks: all lists of letters, of which
// those are kept that are orders; the times by the longest ways between each
// two steps.

type plannedStep struct {
	name           string
	lo, hi         int
	min, max, from int // of the rest that ends with it; from is where the step ahead stands, or -1
	begins         bool
}

func allLetterLists(left []int) []string {
	var lists []string
	empty := true
	for plate := range left {
		if left[plate] == 0 {
			continue
		}
		empty = false
		less := slices.Clone(left)
		less[plate]--
		for _, list := range allLetterLists(less) {
			lists = append(lists, string(rune('a'+plate))+list)
		}
	}
	if empty {
		return []string{""}
	}
	return lists
}

func pair(text string) (int, int) {
	low, high, _ := strings.Cut(text, "-")
	return atoi(low), atoi(high)
}

func atoi(text string) int {
	value, err := strconv.Atoi(text)
	if err != nil {
		panic(err)
	}
	return value
}

// stepsAlong reads the plates' texts (as "1-1~2-2~3-3") in the order of letters.
func stepsAlong(plates []string, letters string) []plannedStep {
	tokens := make([][]string, len(plates))
	for i, text := range plates {
		text = strings.ReplaceAll(text, ",", "~none~")
		tokens[i] = strings.Split(text, "~")
	}
	var steps []plannedStep
	last := make([]int, len(plates))
	done := make([]int, len(plates))
	for i, letter := range letters {
		plate := int(letter - 'a')
		at := 2 * done[plate]
		s := plannedStep{name: string(letter) + strconv.Itoa(done[plate]), from: -1}
		s.lo, s.hi = pair(tokens[plate][at])
		if at > 0 && tokens[plate][at-1] != "none" {
			s.min, s.max = pair(tokens[plate][at-1])
			s.from = last[plate]
			steps[s.from].begins = true
		}
		steps = append(steps, s)
		last[plate] = i
		done[plate]++
	}
	return steps
}

func mostUnderWay(steps []plannedStep) int {
	most := 0
	for i := range steps {
		underWay := 0
		for j, s := range steps {
			if s.from >= 0 && s.from <= i && i < j {
				underWay++
			}
		}
		most = max(most, underWay)
	}
	return most
}

func longestWays(steps []plannedStep, jitter int) [][]int {
	const never = -1 << 40
	ways := make([][]int, len(steps))
	for i := range ways {
		ways[i] = slices.Repeat([]int{never}, len(steps))
		ways[i][i] = 0
	}
	for j, s := range steps {
		for i := range j {
			ways[i][j] = max(ways[i][j], jitter+steps[i].hi)
		}
		if s.from >= 0 {
			p := steps[s.from]
			ways[s.from][j] = max(ways[s.from][j], jitter+p.hi+s.min)
			ways[j][s.from] = max(ways[j][s.from], -(p.lo + s.max - jitter))
		}
	}
	for k := range steps {
		for i := range steps {
			for j := range steps {
				ways[i][j] = max(ways[i][j], ways[i][k]+ways[k][j])
			}
		}
	}
	return ways
}

func timesOf(steps []plannedStep, jitter int) ([]int, bool) {
	ways := longestWays(steps, jitter)
	times := make([]int, len(steps))
	for i := range steps {
		if ways[i][i] > 0 {
			return nil, false
		}
		for j := range steps {
			times[i] = max(times[i], ways[j][i])
		}
	}
	return times, true
}

func tableOf(steps []plannedStep, times []int, jitter int) string {
	text := "j" + strconv.Itoa(jitter)
	place := make([]int, len(steps)) // of the rest that begins with the step
	inUse := make([]bool, len(steps)+1)
	for i, s := range steps {
		text += ";" + s.name + "@" + strconv.Itoa(times[i]) + "+" + strconv.Itoa(s.lo) + "-" + strconv.Itoa(s.hi)
		if s.from >= 0 {
			inUse[place[s.from]] = false
			text += "<" + strconv.Itoa(place[s.from]) + ":" + strconv.Itoa(s.min) + "-" + strconv.Itoa(s.max)
		}
		if s.begins {
			place[i] = slices.Index(inUse, false)
			inUse[place[i]] = true
			text += ">" + strconv.Itoa(place[i])
		}
	}
	return text
}

type plannedOrder struct {
	end   int // -1, if it has no times
	table string
}

func allOrders(plates []string, jitter, places int) []plannedOrder {
	var numbers []int
	for _, text := range plates {
		numbers = append(numbers, 1+strings.Count(text, ",")+strings.Count(text, "~")/2)
	}
	var orders []plannedOrder
	for _, letters := range allLetterLists(numbers) {
		steps := stepsAlong(plates, letters)
		if mostUnderWay(steps) > places {
			continue
		}
		times, ok := timesOf(steps, jitter)
		if !ok {
			orders = append(orders, plannedOrder{end: -1})
			continue
		}
		last := len(steps) - 1
		orders = append(orders, plannedOrder{times[last] + jitter + steps[last].hi, tableOf(steps, times, jitter)})
	}
	return orders
}

func hopeless(plates []string, jitter int) string {
	for i, text := range plates {
		letters := strings.Repeat(string(rune('a'+i)), 1+strings.Count(text, ",")+strings.Count(text, "~")/2)
		for _, s := range stepsAlong(append(make([]string, i), text), letters) {
			if s.from < 0 {
				continue
			}
			p := stepsAlong(append(make([]string, i), text), letters)[s.from]
			if jitter+p.hi+s.min > p.lo+s.max-jitter {
				return s.name
			}
		}
	}
	return ""
}

func expectedPlan(orders []plannedOrder, deadline, budget int) (string, bool, Errno) {
	gone := orders[:min(budget, len(orders))]
	best := -1
	for i, o := range gone {
		if o.end >= 0 && o.end <= deadline && (best < 0 || o.end < gone[best].end) {
			best = i
		}
	}
	all := len(gone) == len(orders)
	switch {
	case best >= 0:
		return gone[best].table, all, OK
	case all:
		return "", false, ErrNone
	}
	return "", false, ErrSpent
}

// choices makes numbers that look arbitrary and are the same each time.
type choices uint64

func (c *choices) below(bound int) int {
	*c = *c*6364136223846793005 + 1442695040888963407
	return int(uint64(*c)>>33) % bound
}

func (c *choices) plates() []string {
	number := 1 + c.below(4)
	left := 3 + c.below(4)
	var plates []string
	for range number {
		text := c.bounds(1, 6, 2)
		for range c.below(min(left, 5)) {
			left--
			if c.below(3) == 0 {
				text += ","
			} else {
				text += "~" + c.bounds(0, 9, 16) + "~"
			}
			text += c.bounds(1, 6, 2)
		}
		left = max(left, 1)
		plates = append(plates, text)
	}
	return plates
}

func (c *choices) bounds(from, below, wide int) string {
	low := from + c.below(below)
	return strconv.Itoa(low) + "-" + strconv.Itoa(low+c.below(wide))
}

// TestPlanAgainstAllOrders holds Plan against the second way, at budgets
// around the number of orders and deadlines around the ends.
func TestPlanAgainstAllOrders(t *testing.T) {
	c := new(choices)
	seen := make(map[Errno]int)
	for range 600 {
		plates := c.plates()
		jitter, places := c.below(3), 1+c.below(3)
		protocol := ""
		for i, text := range plates {
			protocol += ";" + string(rune('a'+i)) + "=" + text
		}
		head := "j" + strconv.Itoa(jitter) + "k" + strconv.Itoa(places) + "d"
		if name := hopeless(plates, jitter); name != "" {
			seen[ErrWindow]++
			runPlanCases(t, []planCase{{head + "99" + protocol, 9, name, false, ErrWindow}})
			continue
		}
		orders := allOrders(plates, jitter, places)
		end := orders[c.below(len(orders))].end
		for _, deadline := range []int{9999, max(end, 1), max(end, 1) - 1} {
			for _, budget := range []int{0, 1, 2, len(orders) / 2, len(orders) - 1, len(orders), len(orders) + 1, 1000} {
				budget = min(budget, 1000)
				out, all, errno := expectedPlan(orders, deadline, budget)
				seen[errno]++
				runPlanCases(t, []planCase{{head + strconv.Itoa(deadline) + protocol, budget, out, all, errno}})
			}
		}
		if t.Failed() {
			return
		}
	}
	for _, errno := range []Errno{OK, ErrWindow, ErrNone, ErrSpent} {
		if seen[errno] < 100 {
			t.Errorf("only %d calls that answer %d", seen[errno], errno)
		}
	}
}

// TestTimesOfEveryOrder also looks at the orders that are not the best. In
// some of these a step that waits makes one ahead of it wait, and so on.
func TestTimesOfEveryOrder(t *testing.T) {
	for _, plates := range [][]string{
		{"1-1~30-30~1-1", "1-2~5-9~1-1", "2-2~3-8~1-1", "1-1~4-9~1-1"},
		{"1-1~170-171~1-1", "1-1~25-34~1-1~20-22~1-1~4-8~1-1", "1-1~6-12~1-1~5-6~1-1"},
		{"1-1~127-129~1-1", "1-1~144-147~1-1", "1-1~12-25~1-1~1-8~1-1~14-15~1-1~22-24~1-1"},
	} {
		text := "j0k3d9999"
		for i, plate := range plates {
			text += ";" + string(rune('a'+i)) + "=" + plate
		}
		parsed, errno, _ := checked(text)
		if errno != OK {
			t.Fatalf("%q is no protocol: %d", text, errno)
		}
		possible := 0
		for order := range parsed.orders() {
			times, ok := parsed.earliestTimes(order)
			wantTimes, wantOK := timesOf(stepsAlong(plates, lettersOf(order)), 0)
			if ok != wantOK || !slices.Equal(times, wantTimes) {
				t.Errorf("P4: %q in the order %q has the times %v, %t, want %v, %t", text, lettersOf(order), times, ok, wantTimes, wantOK)
			}
			if ok {
				possible++
			}
		}
		if possible < 10 {
			t.Errorf("only %d orders of %q have times", possible, text)
		}
	}
}
