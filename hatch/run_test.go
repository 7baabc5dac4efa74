package hatch

import (
	"regexp"
	"strings"
	"testing"
)

type runCase struct {
	table, script string
	out           string
	errno         Errno
}

func runRunCases(t *testing.T, cases []runCase) {
	t.Helper()
	for _, c := range cases {
		if out, errno := Run(c.table, c.script); out != c.out || errno != c.errno {
			t.Errorf("P6: Run(%.410q, %.100q) = %q, %d, want %q, %d", c.table, c.script, out, errno, c.out, c.errno)
		}
	}
}

func TestRunExamples(t *testing.T) {
	runRunCases(t, []runCase{
		{between, "2,2,2,2,2,2,2,2/3,1,4", "done;a0:0-3,b0:4-5,a1:10-14", OK},
		{between, "3,3,3/2,1,4", "late b0;a0:0-2", OK},
		{between, "1,1,1,1/9", "long a0;a0:0-", OK},
		{between, "/", "open;a0:0-", OK},
	})
}

// TestRunHowLongAStepTakes: at least 3, at most 5.
func TestRunHowLongAStepTakes(t *testing.T) {
	const table = "j1;a0@2+3-5"
	runRunCases(t, []runCase{
		{table, "2,3/3", "done;a0:2-5", OK},
		{table, "2,5/5", "done;a0:2-7", OK},
		{table, "2,9/3", "done;a0:2-5", OK},
		{table, "2,9/5", "done;a0:2-7", OK},
		{table, "2,2/2", "short a0;a0:2-4", OK},
		{table, "2,9/2", "short a0;a0:2-4", OK},
		{table, "2,1/2", "open;a0:2-", OK},
		{table, "2,6/6", "long a0;a0:2-8", OK},
		{table, "2,9/6", "long a0;a0:2-8", OK},
		{table, "2/0", "short a0;a0:2-2", OK},
		{table, "2/", "open;a0:2-", OK},
		// at 7 it is not over, and just as long as it may be; at 8 it is longer
		{table, "2,5/6", "open;a0:2-", OK},
		{table, "2,5,1/6", "long a0;a0:2-8", OK},
		{table, "2,5/7", "open;a0:2-", OK},
		{table, "2,6/7", "long a0;a0:2-", OK},
		{table, "2,9/999", "long a0;a0:2-", OK},
		{table, "2,5/", "open;a0:2-", OK},
		{table, "2,6/", "long a0;a0:2-", OK},
		{"j0;a0@0+999-999", "999/999", "done;a0:0-999", OK},
		{"j0;a0@0+999-999", "998/999", "open;a0:0-", OK},
		{"j0;a0@0+998-998", "999/999", "long a0;a0:0-999", OK},
		{"j0;a0@0+999-999", "999/998", "short a0;a0:0-998", OK},
	})
}

func TestRunWhenAStepBegins(t *testing.T) {
	const table = "j2;a0@3+1-1"
	runRunCases(t, []runCase{
		{table, "2/1", "open;", OK},
		{table, "3/1", "open;a0:3-", OK},
		{table, "4/1", "open;a0:4-", OK},
		{table, "5/1", "open;a0:5-", OK},
		{table, "6/1", "late a0;", OK},
		{table, "2,3,1/1", "done;a0:5-6", OK},
		{table, "2,4,1/1", "late a0;", OK},
		{table, "/1", "open;", OK},
		{table, "/", "open;", OK},
		{"j0;a0@3+1-1", "3,1/1", "done;a0:3-4", OK},
		{"j0;a0@3+1-1", "4,1/1", "late a0;", OK},
		{"j9;a0@3+1-1", "12,1/1", "done;a0:12-13", OK},
		{"j9;a0@3+1-1", "13,1/1", "late a0;", OK},
		// the clock may stand still
		{"j0;a0@0+1-1", "0,0,1/1", "done;a0:0-1", OK},
		{"j0;a0@0+1-1", "0,0,0/1", "open;a0:0-", OK},
		// a step waits for the arm, but not longer than the jitter
		{"j1;a0@0+1-9;b0@4+1-1", "4,1,1/5,1", "done;a0:0-5,b0:5-6", OK},
		{"j1;a0@0+1-9;b0@4+1-1", "4,1,1,1/6,1", "late b0;a0:0-6", OK},
		// steps stand in the table's order, whatever their times
		{"j9;a0@5+1-1;b0@0+1-1", "5,1,1/1,1", "done;a0:5-6,b0:6-7", OK},
	})
}

// TestRunRests: a rest of at least 3, at most 5, from when the step was over,
// not from when that was seen.
func TestRunRests(t *testing.T) {
	const table = "j2;a0@0+2-4>0;a1@6+1-1<0:3-5"
	runRunCases(t, []runCase{
		{table, "6,1/3,1", "done;a0:0-3,a1:6-7", OK},
		{table, "6,1/4,1", "window a1;a0:0-4", OK},
		{table, "7,1/4,1", "done;a0:0-4,a1:7-8", OK},
		{table, "4,2,1/4,1", "window a1;a0:0-4", OK},
		{table, "4,3,1/4,1", "done;a0:0-4,a1:7-8", OK},
		{table, "7,1/2,1", "done;a0:0-2,a1:7-8", OK},
		{table, "8,1/2,1", "window a1;a0:0-2", OK},
		{table, "2,6,1/2,1", "window a1;a0:0-2", OK},
		{table, "8,1/3,1", "done;a0:0-3,a1:8-9", OK},
		// late is told ahead of window
		{table, "9/2,1", "late a1;a0:0-2", OK},
		// ahead of its time a rest is not asked for
		{table, "5/4,1", "open;a0:0-4", OK},
		{"j0;a0@0+1-1>0;a1@1+1-1<0:0-0", "1,1/1,1", "done;a0:0-1,a1:1-2", OK},
		{"j1;a0@0+1-1>0;a1@1+1-1<0:0-0", "2,1/1,1", "window a1;a0:0-1", OK},
		{"j0;a0@0+1-1>0;a1@1+1-1<0:1-1", "1,1/1,1", "window a1;a0:0-1", OK},
		// a rest that begins behind a step that ends one
		{"j1;a0@0+1-1>0;a1@2+2-2<0:1-1>0;a2@5+1-1<0:1-1", "1,1,2,1,1/1,2,1", "done;a0:0-1,a1:2-4,a2:5-6", OK},
		{"j1;a0@0+1-1>0;a1@2+2-2<0:1-1>0;a2@5+1-1<0:1-1", "1,1,2,2,1/1,2,1", "window a2;a0:0-1,a1:2-4", OK},
		// each plate has its own
		{"j9;a0@0+1-9>0;b0@0+1-9>1;a1@6+1-9<0:4-4;b1@0+1-9<1:5-5", "2,4,3,1/2,2,3,1", "done;a0:0-2,b0:2-4,a1:6-9,b1:9-10", OK},
		{"j9;a0@0+1-9>0;b0@0+1-9>1;a1@6+1-9<0:2-3;b1@0+1-9<1:5-5", "2,4,3,1/2,2,3,1", "window a1;a0:0-2,b0:2-4", OK},
		{"j9;a0@0+1-9>0;b0@0+1-9>1;a1@6+1-9<0:4-4;b1@0+1-9<1:6-9", "2,4,3,1/2,2,3,1", "window b1;a0:0-2,b0:2-4,a1:6-9", OK},
	})
}

// TestRunSeveralCasesAtOneLook: all of it is done ahead of the next number.
func TestRunSeveralCasesAtOneLook(t *testing.T) {
	const table = "j9;a0@0+1-9;b0@0+1-9;c0@0+1-9"
	runRunCases(t, []runCase{
		// over, and the next begins
		{table, "5/5,3,1", "open;a0:0-5,b0:5-", OK},
		// over, the next begins, and is over at once
		{table, "5/5,0", "short b0;a0:0-5,b0:5-5", OK},
		{table, "5,3/5,3,0", "short c0;a0:0-5,b0:5-8,c0:8-8", OK},
		{table, "/0", "short a0;a0:0-0", OK},
		// over, and all are done
		{table, "5,3,1/5,3,1", "done;a0:0-5,b0:5-8,c0:8-9", OK},
		{table, "5,3,1,9/5,3,1", "done;a0:0-5,b0:5-8,c0:8-9", OK},
		// over, and the next is late, or its rest too long, or not there yet
		{table, "10/5,3,1", "late b0;a0:0-5", OK},
		{"j9;a0@0+1-9>0;a1@0+1-9<0:0-3", "9/5,1", "window a1;a0:0-5", OK},
		{"j9;a0@0+1-9;b0@8+1-9", "7/5,1", "open;a0:0-5", OK},
		// over, but short or long: the next does not begin
		{table, "12/10,1,1", "long a0;a0:0-10", OK},
		{"j9;a0@0+2-9;b0@0+1-9", "3/1,1", "short a0;a0:0-1", OK},
	})
}

func TestRunShortScripts(t *testing.T) {
	const table = "j9;a0@0+1-9;b0@0+1-9"
	runRunCases(t, []runCase{
		{table, "/", "open;a0:0-", OK},
		{table, "/5,5", "open;a0:0-", OK},
		{table, "5/", "open;a0:0-", OK},
		{table, "9,0,0/", "open;a0:0-", OK},
		{table, "10/", "long a0;a0:0-", OK},
		// no number is left for b0
		{table, "5,9/5", "open;a0:0-5,b0:5-", OK},
		{table, "5,10/5", "long b0;a0:0-5,b0:5-", OK},
		// more numbers than steps
		{table, "5,5/5,5,0,999", "done;a0:0-5,b0:5-10", OK},
		{table, "5,5,0,999/5,5", "done;a0:0-5,b0:5-10", OK},
		// no steps at all
		{"j0", "/", "done;", OK},
		{"j9", "999,0/0,999", "done;", OK},
	})
}

// TestRunLongScripts: texts of as many bytes as they may have.
func TestRunLongScripts(t *testing.T) {
	most := strings.Repeat("1,", 398) + "1/99"
	if len(most) != 800 {
		t.Fatalf("the script here has %d bytes", len(most))
	}
	far := strings.Repeat("999,", 100) + "99,1,1/1,1"
	runRunCases(t, []runCase{
		{"j0;a0@0+9-99", most, "done;a0:0-99", OK},
		{"j0;a0@300+99-99", most, "done;a0:300-399", OK},
		{"j0;a0@301+99-99", most, "open;a0:301-", OK},
		{"j0;a0@0+9-99", most + "9", "", ErrLong},
		{"j0;a0@99999+1-1", far, "done;a0:99999-100000", OK},
		{"j0;a0@99998+1-1", far, "late a0;", OK},
		{"j0", "/" + strings.Repeat("999,", 199) + "999", "done;", OK},
		{"j0", "/" + strings.Repeat("999,", 199) + "9999", "", ErrLong},
		{longTable(400), "9/", "open;", OK},
		{longTable(401), "9/", "", ErrLong},
		{"j0" + strings.Repeat(";a0@0+1-1", 45), "9/", "", ErrLong},
	})
}

func TestRunWrongScripts(t *testing.T) {
	for _, script := range []string{
		"", "1", "1,1", ",", "//", "1//", "/1/", "1/1/1", ",/", "/,", ",1/", "/,1", "1,/", "/1,", "1,/1", "1,,1/", "/1,,1",
		"00/", "01/", "/01", "/00", "1000/", "/1000", "0000/", "1,1000/", "/1,1000", "1,01/1",
		"-1/", "+1/", "/-1", "1 /", " /", "/ ", "/1\n", "1.5/", "a/", "/a", "1;1/", "1/1;", "1:1", "1\\1", "/\x00", "\x00/", "/\xff", "/\u0661", "1/1j",
	} {
		runRunCases(t, []runCase{{between, script, "", ErrScript}, {"j0", script, "", ErrScript}})
	}
	runRunCases(t, []runCase{
		{"j0", "999/999", "done;", OK},
		{"j0", "0/0", "done;", OK},
		{"j0", "0,10,100,9/0,10,100,9", "done;", OK},
	})
}

func TestRunFirstNamedError(t *testing.T) {
	long := strings.Repeat("x", 801)
	runRunCases(t, []runCase{
		// long, of either text, ahead of all else
		{strings.Repeat("j", 401), "x", "", ErrLong},
		{strings.Repeat("j", 401), "/", "", ErrLong},
		{strings.Repeat("j", 401), long, "", ErrLong},
		{"x", long, "", ErrLong},
		{"j0;a1@0+1-1", long, "", ErrLong},
		{between, long, "", ErrLong},
		{between, "/" + strings.Repeat("1,", 400) + "1", "", ErrLong},
		// the table's errors ahead of the script's
		{"", "", "", ErrForm},
		{"x", "x", "", ErrForm},
		{"j0;a1@0+1-1;", "x", "", ErrForm},
		{"x", strings.Repeat("x", 800), "", ErrForm},
		{"j0;a1@0+1-1", "x", "", ErrTable},
		{"j0;a0@0+1-1>0;a1@0+1-1", "1,", "", ErrTable},
		{"j0;a0@0+0-1", "/", "", ErrTable},
		{strings.Repeat("x", 400), "/", "", ErrForm},
		{between, strings.Repeat("x", 800), "", ErrScript},
	})
}

// TestRunLongTextsByTheirLength: a text that is too long is not read, nor the
// one beside it, else its numbers would have to be kept somewhere.
func TestRunLongTextsByTheirLength(t *testing.T) {
	table := "j0" + strings.Repeat(";a0@0+1-1", 1<<18)
	script := strings.Repeat("1,", 1<<20) + "1/"
	used := testing.AllocsPerRun(5, func() {
		if errno, place := Look(table); errno != ErrLong || place != 0 {
			t.Errorf("P1: Look at a long text = %d, %d", errno, place)
		}
		for _, c := range [][2]string{{table, "1,1/1"}, {between, script}, {table, script}} {
			if out, errno := Run(c[0], c[1]); out != "" || errno != ErrLong {
				t.Errorf("P1: Run of a long text = %q, %d", out, errno)
			}
		}
	})
	if used != 0 {
		t.Errorf("P1: a long text is read: %v allocations", used)
	}
}

var scriptForm = regexp.MustCompile(`\A((0|[1-9][0-9]{0,2})(,(0|[1-9][0-9]{0,2}))*)?/((0|[1-9][0-9]{0,2})(,(0|[1-9][0-9]{0,2}))*)?\z`)

// TestRunTakesAnything: no call panics, what is wrong is told by the right
// error, and beside an error nothing is told.
func TestRunTakesAnything(t *testing.T) {
	const bytes = "0129jabde;@+-<:>,~/ \x00\xff"
	ask := func(table, script string) {
		out, errno := Run(table, script)
		want, _ := Look(table)
		if want == OK && !scriptForm.MatchString(script) {
			want = ErrScript
		}
		if errno != want || (errno == OK) != (out != "") {
			t.Errorf("P6: Run(%q, %q) = %q, %d, want %d", table, script, out, errno, want)
		}
	}
	const script = "2,10,100,2/3,0,4"
	for i := range len(between) + 1 {
		for _, b := range []byte(bytes) {
			ask(between[:i]+string([]byte{b})+between[i:], script)
			ask(between[:i]+string([]byte{b}), script[:len(script)-1])
			ask(between[:i], script+string([]byte{b}))
		}
	}
	for i := range len(script) + 1 {
		ask(between, script[:i])
		ask(between, script[i:])
		for b := range 256 {
			ask(between, script[:i]+string([]byte{byte(b)})+script[i:])
			ask(between, script[:i]+string([]byte{byte(b)}))
		}
	}
}
