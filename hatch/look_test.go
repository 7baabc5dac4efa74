package hatch

import (
	"regexp"
	"strconv"
	"strings"
	"testing"
)

// between is the timetable of the document's examples.
const between = "j1;a0@0+2-3>0;b0@4+1-1;a1@9+4-4<0:5-9"

type lookCase struct {
	text  string
	errno Errno
	place int
}

func runLookCases(t *testing.T, cases []lookCase) {
	t.Helper()
	for _, c := range cases {
		if errno, place := Look(c.text); errno != c.errno || place != c.place {
			t.Errorf("P5: Look(%.410q) = %d, %d, want %d, %d", c.text, errno, place, c.errno, c.place)
		}
	}
}

func TestLookRightTables(t *testing.T) {
	runLookCases(t, []lookCase{
		{between, OK, 0},
		{"j0", OK, 0},
		{"j9", OK, 0},
		{"j0;d0@0+1-1", OK, 0},
		{"j9;d0@99999+999-999>9", OK, 0},
		{"j0;a0@0+1-1>0;a1@0+1-1<0:999-999", OK, 0},
		{"j0;a0@0+1-1>0;a1@0+1-1<0:0-0", OK, 0},
		// times need not go up, nor rests fit them
		{"j0;a0@5+1-1;b0@3+1-1;a1@0+9-9", OK, 0},
		{"j0;a0@0+9-9>0;a1@0+1-1<0:0-0", OK, 0},
		// plates need not come in their order, nor all of them
		{"j0;d0@0+1-1;b0@0+1-1;d1@0+1-1", OK, 0},
		// a place need not be the lowest
		{"j0;a0@0+1-1>9;b0@0+1-1>3;b1@0+1-1<3:0-0;a1@0+1-1<9:0-0", OK, 0},
		// a plate may come back into its place, or stay behind its last step
		{"j0;a0@0+1-1>0;a1@0+1-1<0:0-0>0;b0@0+1-1", OK, 0},
		{"j0;a0@0+1-1>0;b0@0+1-1>1;c0@0+1-1>2;d0@0+1-1>3", OK, 0},
		// a place that was left may be taken again
		{"j0;a0@0+1-1>0;a1@0+1-1<0:0-0;b0@0+1-1>0", OK, 0},
		{"j0;a0@0+1-1>0;a1@0+1-1<0:0-0>1;b0@0+1-1>0", OK, 0},
	})
}

// longTable is a right table of all the steps that can be named, and of so
// many bytes.
func longTable(size int) string {
	text := "j0"
	left := size - len(text) - 10*maxPlates*len(";a0@0+1-1")
	for plate := range maxPlates {
		for number := range 10 {
			more := min(left, timeDigits-1)
			left -= more
			text += ";" + string(rune('a'+plate)) + strconv.Itoa(number) + "@" + strings.Repeat("9", 1+more) + "+1-1"
		}
	}
	return text
}

func TestLookLength(t *testing.T) {
	most := longTable(maxTable)
	more := longTable(maxTable + 1)
	if len(most) != 400 || len(more) != 401 {
		t.Fatalf("the tables here have %d and %d bytes", len(most), len(more))
	}
	runLookCases(t, []lookCase{
		{most, OK, 0},
		{more, ErrLong, 0},
		{most + ";", ErrLong, 0},
		{most[:399] + "x", ErrForm, 399},
		{most[:399], ErrForm, 399},
		{most[:398] + ";d", ErrForm, 398},
		{most[:391], OK, 0},
		{most[:391] + ";d9@9+1-", ErrForm, 399},
		{most[:391] + ";d9@9+1-0", ErrTable, 39},
		{strings.Repeat("x", 400), ErrForm, 0},
		{strings.Repeat("x", 401), ErrLong, 0},
		{strings.Repeat("\x00", 1<<20), ErrLong, 0},
	})
}

// TestLookEndsTooEarly cuts a table at every place: only behind its head,
// behind bounds and behind a place that is come into can it end.
func TestLookEndsTooEarly(t *testing.T) {
	const text = "j1;a0@12345+123-456>0;b0@4+1-1;a1@9+4-44<0:5-99>1"
	whole := map[int]int{2: 1, 17: 1, 18: 1, 19: 1, 21: 1, 30: 1, 39: 1, 40: 1, 46: 1, 47: 1, 49: 1}
	for end := range len(text) + 1 {
		errno, place := Look(text[:end])
		if whole[end] == 1 {
			if errno == ErrForm {
				t.Errorf("P5: Look(%q) = ErrForm, %d, but it is a table", text[:end], place)
			}
			continue
		}
		if errno != ErrForm || place != end {
			t.Errorf("P5: Look(%q) = %d, %d, want ErrForm, %d", text[:end], errno, place, end)
		}
	}
}

func TestLookNumbers(t *testing.T) {
	runLookCases(t, []lookCase{
		{"j10", ErrForm, 2},
		{"j00", ErrForm, 2},
		{"j0;a00@0+1-1", ErrForm, 5},
		{"j0;a10@0+1-1", ErrForm, 5},
		{"j0;a0@99999+1-1", OK, 0},
		{"j0;a0@100000+1-1", ErrForm, 11},
		{"j0;a0@01+1-1", ErrForm, 7},
		{"j0;a0@0+999-999", OK, 0},
		{"j0;a0@0+1000-1", ErrForm, 11},
		{"j0;a0@0+01-1", ErrForm, 9},
		{"j0;a0@0+1-1000", ErrForm, 13},
		{"j0;a0@0+1-01", ErrForm, 11},
		{"j0;a0@0+1-1<10:1-1", ErrForm, 13},
		{"j0;a0@0+1-1<0:1000-1", ErrForm, 17},
		{"j0;a0@0+1-1<0:01-1", ErrForm, 15},
		{"j0;a0@0+1-1<0:1-1000", ErrForm, 19},
		{"j0;a0@0+1-1<0:1-01", ErrForm, 17},
		{"j0;a0@0+1-1>10", ErrForm, 13},
		{"j0;a0@-1+1-1", ErrForm, 6},
		{"j0;a0@0+-1-1", ErrForm, 8},
		{"j0;a0@0+1-\u0661", ErrForm, 10},
	})
}

func TestLookWrongMarks(t *testing.T) {
	runLookCases(t, []lookCase{
		{"", ErrForm, 0},
		{"x", ErrForm, 0},
		{"J0", ErrForm, 0},
		{" j0", ErrForm, 0},
		{"j", ErrForm, 1},
		{"j-", ErrForm, 1},
		{"j;a0@0+1-1", ErrForm, 1},
		{"j0k1d9;a=1-1", ErrForm, 2},
		{"j0,a0@0+1-1", ErrForm, 2},
		{"j0;", ErrForm, 3},
		{"j0;;a0@0+1-1", ErrForm, 3},
		{"j0;e0@0+1-1", ErrForm, 3},
		{"j0;A0@0+1-1", ErrForm, 3},
		{"j0;00@0+1-1", ErrForm, 3},
		{"j0;`0@0+1-1", ErrForm, 3},
		{"j0;<0:1-1", ErrForm, 3},
		{"j0;>0", ErrForm, 3},
		{"j0;ab@0+1-1", ErrForm, 4},
		{"j0;a@0+1-1", ErrForm, 4},
		{"j0;a0=1-1", ErrForm, 5},
		{"j0;a0@+1-1", ErrForm, 6},
		{"j0;a0@0-1-1", ErrForm, 7},
		{"j0;a0@0+1+1", ErrForm, 9},
		{"j0;a0@0+1-1,", ErrForm, 11},
		{"j0;a0@0+1-1~1-1~", ErrForm, 11},
		{"j0;a0@0+1-1 ", ErrForm, 11},
		{"j0;a0@0+1-1\xff", ErrForm, 11},
		{"j0;a0@0+1-1:", ErrForm, 11},
		{"j0;a0@0+1-1/", ErrForm, 11},
		{"j0;a0@0+1-1;", ErrForm, 12},
		{"j0;a0@0+1-1<>0", ErrForm, 12},
		{"j0;a0@0+1-1<0>0", ErrForm, 13},
		{"j0;a0@0+1-1<0-1-1", ErrForm, 13},
		{"j0;a0@0+1-1<0:>0", ErrForm, 14},
		{"j0;a0@0+1-1<0:1>0", ErrForm, 15},
		{"j0;a0@0+1-1<0:1-1<0:1-1", ErrForm, 17},
		{"j0;a0@0+1-1>>0", ErrForm, 12},
		{"j0;a0@0+1-1>0:1-1", ErrForm, 13},
		{"j0;a0@0+1-1>0>1", ErrForm, 13},
		{"j0;a0@0+1-1>0<0:1-1", ErrForm, 13},
	})
}

func TestLookSteps(t *testing.T) {
	runLookCases(t, []lookCase{
		// the steps' numbers
		{"j0;a1@0+1-1", ErrTable, 0},
		{"j0;a0@0+1-1;a0@0+1-1", ErrTable, 1},
		{"j0;a0@0+1-1;a2@0+1-1", ErrTable, 1},
		{"j0;a0@0+1-1;b1@0+1-1", ErrTable, 1},
		{"j0;a0@0+1-1;a1@0+1-1;a0@0+1-1", ErrTable, 2},
		{"j0;a0@0+1-1;b0@0+1-1;a1@0+1-1;b1@0+1-1;b1@0+1-1", ErrTable, 4},
		// behind 9 there is no number
		{"j0;a0@0+1-1;a1@0+1-1;a2@0+1-1;a3@0+1-1;a4@0+1-1;a5@0+1-1;a6@0+1-1;a7@0+1-1;a8@0+1-1;a9@0+1-1", OK, 0},
		{"j0;a0@0+1-1;a1@0+1-1;a2@0+1-1;a3@0+1-1;a4@0+1-1;a5@0+1-1;a6@0+1-1;a7@0+1-1;a8@0+1-1;a9@0+1-1;a0@0+1-1", ErrTable, 10},
		// how long they take
		{"j0;a0@0+0-0", ErrTable, 0},
		{"j0;a0@0+0-1", ErrTable, 0},
		{"j0;a0@0+2-1", ErrTable, 0},
		{"j0;a0@0+999-998", ErrTable, 0},
		{"j0;a0@0+10-9", ErrTable, 0},
		{"j0;a0@0+1-1;b0@0+0-1", ErrTable, 1},
		{"j0;a0@0+1-1;b0@0+1-1;c0@0+2-1", ErrTable, 2},
	})
}

func TestLookPlaces(t *testing.T) {
	runLookCases(t, []lookCase{
		// a rest the wrong way round
		{"j0;a0@0+1-1>0;a1@1+1-1<0:1-0", ErrTable, 1},
		{"j0;a0@0+1-1>0;a1@1+1-1<0:10-9", ErrTable, 1},
		{"j0;a0@0+1-1>0;a1@1+1-1<0:9-9", OK, 0},
		// a rest ends, but the plate is in no place
		{"j0;a0@0+1-1<0:1-1", ErrTable, 0},
		{"j0;a0@0+1-1;a1@0+1-1<0:1-1", ErrTable, 1},
		{"j0;a0@0+1-1>0;b0@0+1-1<0:1-1", ErrTable, 1},
		{"j0;a0@0+1-1>0;a1@0+1-1<0:1-1;a2@0+1-1<0:1-1", ErrTable, 2},
		// none ends, but the plate is in one
		{"j0;a0@0+1-1>0;a1@0+1-1", ErrTable, 1},
		{"j0;a0@0+1-1>0;a1@0+1-1>0", ErrTable, 1},
		{"j0;a0@0+1-1>0;a1@0+1-1>1", ErrTable, 1},
		{"j0;a0@0+1-1>0;a1@0+1-1<0:0-0>1;a2@0+1-1", ErrTable, 2},
		// it is in another place
		{"j0;a0@0+1-1>0;a1@0+1-1<1:1-1", ErrTable, 1},
		{"j0;a0@0+1-1>9;a1@0+1-1<8:1-1", ErrTable, 1},
		{"j0;a0@0+1-1>0;b0@0+1-1>1;a1@0+1-1<1:1-1", ErrTable, 2},
		{"j0;a0@0+1-1>0;a1@0+1-1<0:0-0>1;a2@0+1-1<0:0-0", ErrTable, 2},
		// the place is another plate's
		{"j0;a0@0+1-1>0;b0@0+1-1>0", ErrTable, 1},
		{"j0;b0@0+1-1>9;a0@0+1-1>9", ErrTable, 1},
		{"j0;a0@0+1-1>0;b0@0+1-1;c0@0+1-1;d0@0+1-1>0", ErrTable, 3},
		{"j0;a0@0+1-1>0;b0@0+1-1>1;a1@0+1-1<0:0-0>1", ErrTable, 2},
		{"j0;a0@0+1-1>0;a1@0+1-1<0:0-0>1;b0@0+1-1>1", ErrTable, 2},
	})
}

// TestLookFirstNamedError: long ahead of form, form ahead of what is not
// right, and of that the first step.
func TestLookFirstNamedError(t *testing.T) {
	runLookCases(t, []lookCase{
		{"x" + strings.Repeat(";a1@0+0-0", 45), ErrLong, 0},
		{"j0" + strings.Repeat(";a1@0+0-0", 45), ErrLong, 0},
		{"j0;a1@0+0-0<0:2-1x", ErrForm, 17},
		{"j0;a0@0+1-1>0;a1@0+1-1;", ErrForm, 23},
		{"j0;a0@0+1-1;a1@0+0-1;a1@0+1-1", ErrTable, 1},
		{"j0;a0@0+1-1>0;b0@0+1-1>0;a1@0+1-1<1:2-1", ErrTable, 1},
		{"j0;a0@0+1-1>0;b0@0+1-1>1;a1@0+1-1<1:2-1;c5@0+1-1", ErrTable, 2},
	})
}

// A second reading of tables, from their whole text.

const (
	boundsForm = `(0|[1-9][0-9]{0,2})-(0|[1-9][0-9]{0,2})`
	turnForm   = `;([a-d])([0-9])@(0|[1-9][0-9]{0,4})\+` + boundsForm + `(<([0-9]):` + boundsForm + `)?(>([0-9]))?`
)

var (
	tableForm = regexp.MustCompile(`\Aj[0-9](` + turnForm + `)*\z`)
	oneTurn   = regexp.MustCompile(turnForm)
)

type tableStep struct {
	plate, name string
	number      int
	time        int
	lo, hi      int
	from, into  string // places, or empty
	min, max    int
}

func stepsOf(table string) []tableStep {
	var steps []tableStep
	for _, m := range oneTurn.FindAllStringSubmatch(table, -1) {
		s := tableStep{plate: m[1], name: m[1] + m[2], number: atoi(m[2]), time: atoi(m[3]), lo: atoi(m[4]), hi: atoi(m[5]), from: m[7], into: m[11]}
		if s.from != "" {
			s.min, s.max = atoi(m[8]), atoi(m[9])
		}
		steps = append(steps, s)
	}
	return steps
}

// stepAhead is the last step of the plate among the steps.
func stepAhead(steps []tableStep, plate string) (tableStep, bool) {
	for i := len(steps) - 1; i >= 0; i-- {
		if steps[i].plate == plate {
			return steps[i], true
		}
	}
	return tableStep{}, false
}

func isRightStep(ahead []tableStep, s tableStep) bool {
	last, found := stepAhead(ahead, s.plate)
	if found && s.number != last.number+1 || !found && s.number != 0 {
		return false
	}
	if s.lo == 0 || s.lo > s.hi || s.min > s.max || s.from != last.into {
		return false
	}
	for _, plate := range []string{"a", "b", "c", "d"} {
		other, _ := stepAhead(ahead, plate)
		if plate != s.plate && s.into != "" && other.into == s.into {
			return false
		}
	}
	return true
}

func expectedLook(table string) (Errno, int) {
	if !tableForm.MatchString(table) {
		return ErrForm, 0
	}
	steps := stepsOf(table)
	for i, s := range steps {
		if !isRightStep(steps[:i], s) {
			return ErrTable, i
		}
	}
	return OK, 0
}

// someTableBegins tells whether some table begins with the text: every state
// of the form is left behind by one of the endings.
func someTableBegins(text string) bool {
	const ending = "j1;a0@0+1-1<0:1-1>0"
	for i := range len(ending) + 1 {
		if tableForm.MatchString(text + ending[i:]) {
			return true
		}
	}
	return false
}

func lookAt(t *testing.T, text string) {
	t.Helper()
	errno, place := Look(text)
	want, number := expectedLook(text)
	if errno != want || want != ErrForm && place != number {
		t.Errorf("P5: Look(%q) = %d, %d, want %d, %d", text, errno, place, want, number)
		return
	}
	if want != ErrForm {
		return
	}
	if place < 0 || place > len(text) || !someTableBegins(text[:place]) || place < len(text) && someTableBegins(text[:place+1]) {
		t.Errorf("P5: Look(%q) = ErrForm, %d: not the first byte that cannot stand there", text, place)
	}
}

// TestLookNearTables holds Look against the second reading, at every text
// that is one byte away from a table.
func TestLookNearTables(t *testing.T) {
	const bytes = "0129jabcde;@+-<:>,~/= \x00\xc3"
	for _, text := range []string{between, "j0;a0@99999+1-100>0;b0@0+2-30>1;a1@1+1-1<0:10-100>0;a2@0+1-1<0:0-1;c0@0+1-1>0", "j0;a1@0+0-0"} {
		for i := range len(text) {
			lookAt(t, text[:i]+text[i+1:])
			for _, b := range []byte(bytes) {
				lookAt(t, text[:i]+string([]byte{b})+text[i:])
				lookAt(t, text[:i]+string([]byte{b})+text[i+1:])
			}
		}
		for _, b := range []byte(bytes) {
			lookAt(t, text+string([]byte{b}))
		}
	}
}

// TestLookEveryByte puts each of the 256 bytes at each place.
func TestLookEveryByte(t *testing.T) {
	const text = "j1;a0@0+1-1>0;a1@0+1-1<0:1-1>0"
	for i := range len(text) {
		for b := range 256 {
			lookAt(t, text[:i]+string([]byte{byte(b)})+text[i+1:])
		}
	}
}

// TestLookAtManyTables holds Look against the second reading at tables of
// which most are right as far as their last steps.
func TestLookAtManyTables(t *testing.T) {
	c := new(choices)
	seen := make(map[Errno]int)
	for range 20000 {
		text := c.table(1+c.below(9), true)
		lookAt(t, text)
		errno, _ := Look(text)
		seen[errno]++
		if t.Failed() {
			return
		}
	}
	if seen[OK] < 1000 || seen[ErrTable] < 1000 {
		t.Errorf("the tables here are too much alike: %v", seen)
	}
}

// table makes one of so many steps, that is right, or, with faults, is so
// but for a few.
func (c *choices) table(number int, faults bool) string {
	text := "j" + strconv.Itoa(c.below(4))
	steps := make([]int, maxPlates)
	places := []string{"", "", "", ""}
	time := 0
	for range number {
		plate := c.below(maxPlates)
		from := places[plate]
		places[plate] = ""
		into := ""
		if place := strconv.Itoa(c.below(5)); c.below(2) == 0 && !strings.Contains(strings.Join(places, ""), place) {
			into = place
		}
		digit := steps[plate]
		if faults {
			from, into, digit = c.fault(from), c.fault(into), digit+c.below(40)/39
		}
		text += ";" + string(rune('a'+plate)) + strconv.Itoa(min(digit, 9)) + "@" + strconv.Itoa(time) + "+" + c.bounds(1, 4, 3)
		if from != "" {
			text += "<" + from + ":" + c.bounds(0, 3, 8)
		}
		if into != "" {
			text += ">" + into
		}
		places[plate] = into
		steps[plate]++
		time = max(0, time+c.below(8)-1)
	}
	return text
}

// fault changes a place now and then.
func (c *choices) fault(place string) string {
	switch c.below(40) {
	case 0:
		return ""
	case 1:
		return strconv.Itoa(c.below(5))
	}
	return place
}
