package hatch

import (
	"slices"
	"strings"
	"testing"
)

type planCase struct {
	protocol string
	budget   int
	out      string
	all      bool
	errno    Errno
}

func runPlanCases(t *testing.T, cases []planCase) {
	t.Helper()
	for _, c := range cases {
		if out, all, errno := Plan(c.protocol, c.budget); out != c.out || all != c.all || errno != c.errno {
			t.Errorf("P4: Plan(%.130q, %d) = %q, %t, %d, want %q, %t, %d", c.protocol, c.budget, out, all, errno, c.out, c.all, c.errno)
		}
	}
}

func TestPlanExamples(t *testing.T) {
	const (
		three   = "j0;a0@0+2-3;a1@3+1-1;b0@4+4-4"
		between = "j1;a0@0+2-3>0;b0@4+1-1;a1@9+4-4<0:5-9"
		behind  = "j1;a0@0+2-3>0;a1@9+4-4<0:5-9;b0@14+1-1"
	)
	runPlanCases(t, []planCase{
		{"j0k0d8;a=2-3,1-1;b=4-4", 9, three, true, OK},
		{"j0k0d8;a=2-3,1-1;b=4-4", 1, three, false, OK},
		{"j0k0d8;a=2-3,1-1;b=4-4", 0, "", false, ErrSpent},
		{"j0k0d7;a=2-3,1-1;b=4-4", 3, "", false, ErrNone},
		{"j0k0d7;a=2-3,1-1;b=4-4", 4, "", false, ErrNone},
		{"j0k0d7;a=2-3,1-1;b=4-4", 2, "", false, ErrSpent},
		{"j1k1d99;a=2-3~5-9~4-4;b=1-1", 9, between, true, OK},
		{"j1k1d99;a=2-3~5-9~4-4;b=1-1", 1, behind, false, OK},
		{"j1k1d15;a=2-3~5-9~4-4;b=1-1", 1, "", false, ErrSpent},
		{"j1k1d99;a=2-3~5-7~4-4", 9, "a1", false, ErrWindow},
		{"j0k1d99;a=1-1~0-0~1-1;b=9-9", 9, "j0;a0@0+1-1>0;a1@1+1-1<0:0-0;b0@2+9-9", true, OK},
		{"j0k1d99;a=1-1~9-9~1-1;b=1-1~9-9~1-1", 9, "j0;a0@0+1-1>0;a1@10+1-1<0:9-9;b0@11+1-1>0;b1@21+1-1<0:9-9", true, OK},
		{"j0k2d99;a=1-1~9-9~1-1;b=1-1~9-9~1-1", 9, "j0;a0@0+1-1>0;b0@1+1-1>1;a1@10+1-1<0:9-9;b1@11+1-1<1:9-9", true, OK},
		{"j0k2d99;a=1-1~3-3~1-1;b=5-5~1-2~9-9", 9, "j0;a0@0+1-1>0;a1@4+1-1<0:3-3;b0@5+5-5>0;b1@11+9-9<0:1-2", true, OK},
	})
}

func TestPlanBudgets(t *testing.T) {
	const one = "j0;a0@0+1-1"
	const least = int(^uint(0)>>1) * -1
	runPlanCases(t, []planCase{
		{"j0k0d9;a=1-1", least - 1, "", false, ErrArg},
		{"j0k0d9;a=1-1", -1, "", false, ErrArg},
		{"j0k0d9;a=1-1", 0, "", false, ErrSpent},
		{"j0k0d0;a=1-1", 0, "", false, ErrSpent},
		{"j0k0d9;a=1-1", 1, one, true, OK},
		{"j0k0d9;a=1-1", 2, one, true, OK},
		{"j0k0d9;a=1-1", 1000, one, true, OK},
		{"j0k0d9;a=1-1", 1001, "", false, ErrArg},
		{"j0k0d9;a=1-1", -least, "", false, ErrArg},
	})
}

// TestPlanAsManyOrdersAsTheBudget: two plates of two steps have six orders,
// or two if a place is free for one of them only.
func TestPlanAsManyOrdersAsTheBudget(t *testing.T) {
	const out = "j0;a0@0+1-1;a1@1+1-1;b0@2+1-1;b1@3+1-1"
	const rests = "j0;a0@0+1-1>0;a1@1+1-1<0:0-0;b0@2+1-1>0;b1@3+1-1<0:0-0"
	runPlanCases(t, []planCase{
		{"j0k0d4;a=1-1,1-1;b=1-1,1-1", 5, out, false, OK},
		{"j0k0d4;a=1-1,1-1;b=1-1,1-1", 6, out, true, OK},
		{"j0k0d4;a=1-1,1-1;b=1-1,1-1", 7, out, true, OK},
		{"j0k0d3;a=1-1,1-1;b=1-1,1-1", 5, "", false, ErrSpent},
		{"j0k0d3;a=1-1,1-1;b=1-1,1-1", 6, "", false, ErrNone},
		{"j0k0d3;a=1-1,1-1;b=1-1,1-1", 7, "", false, ErrNone},
		{"j0k1d4;a=1-1~0-0~1-1;b=1-1~0-0~1-1", 1, rests, false, OK},
		{"j0k1d4;a=1-1~0-0~1-1;b=1-1~0-0~1-1", 2, rests, true, OK},
		{"j0k1d3;a=1-1~0-0~1-1;b=1-1~0-0~1-1", 1, "", false, ErrSpent},
		{"j0k1d3;a=1-1~0-0~1-1;b=1-1~0-0~1-1", 2, "", false, ErrNone},
		// orders that have no times are gone through like others
		{"j0k2d4;a=1-1~0-0~1-1;b=1-1~0-0~1-1", 5, rests, false, OK},
		{"j0k2d4;a=1-1~0-0~1-1;b=1-1~0-0~1-1", 6, rests, true, OK},
	})
}

// TestPlanMoreOrdersThanMaxBudget: nine steps of three plates have 1680
// orders. With the rest only those that begin with c are over at 9, and all
// of them stand behind the first 1000.
func TestPlanMoreOrdersThanMaxBudget(t *testing.T) {
	const nine = ";a=1-1,1-1,1-1;b=1-1,1-1,1-1;c=1-1,1-1,1-1"
	const rest = ";a=1-1,1-1,1-1;b=1-1,1-1,1-1;c=1-1~6-6~1-1,1-1"
	const first = "j0;a0@0+1-1;a1@1+1-1;a2@2+1-1;b0@3+1-1;b1@4+1-1;b2@5+1-1;c0@6+1-1;c1@7+1-1;c2@8+1-1"
	const second = "j0;a0@0+1-1;c0@1+1-1>0;a1@2+1-1;a2@3+1-1;b0@4+1-1;b1@5+1-1;b2@6+1-1;c1@8+1-1<0:6-6;c2@9+1-1"
	runPlanCases(t, []planCase{
		{"j0k0d9" + nine, 1000, first, false, OK},
		{"j0k0d9" + nine, 1, first, false, OK},
		{"j0k0d8" + nine, 1000, "", false, ErrSpent},
		{"j0k0d8" + nine, 1, "", false, ErrSpent},
		{"j0k1d99" + rest, 1000, second, false, OK},
		{"j0k1d10" + rest, 1000, second, false, OK},
		{"j0k1d9" + rest, 1000, "", false, ErrSpent},
	})
}

func TestPlanDeadline(t *testing.T) {
	runPlanCases(t, []planCase{
		{"j0k0d5;a=2-5", 1, "j0;a0@0+2-5", true, OK},
		{"j0k0d4;a=2-5", 1, "", false, ErrNone},
		{"j3k0d8;a=2-5", 1, "j3;a0@0+2-5", true, OK},
		{"j3k0d7;a=2-5", 1, "", false, ErrNone},
		{"j1k0d5;a=1-1,1-2", 1, "j1;a0@0+1-1;a1@2+1-2", true, OK},
		{"j1k0d4;a=1-1,1-2", 1, "", false, ErrNone},
		{"j1k1d14;a=2-3~5-9~4-4;b=1-1", 9, "j1;a0@0+2-3>0;b0@4+1-1;a1@9+4-4<0:5-9", true, OK},
		{"j1k1d13;a=2-3~5-9~4-4;b=1-1", 9, "", false, ErrNone},
		// the first order in time is not the best, and the best is not the first
		{"j1k1d16;a=2-3~5-9~4-4;b=1-1", 9, "j1;a0@0+2-3>0;b0@4+1-1;a1@9+4-4<0:5-9", true, OK},
		{"j1k1d16;a=2-3~5-9~4-4;b=1-1", 1, "j1;a0@0+2-3>0;a1@9+4-4<0:5-9;b0@14+1-1", false, OK},
		{"j9k0d9072;a=1-999,1-999,1-999,1-999,1-999;b=1-999,1-999,1-999,1-999", 1, "j9;a0@0+1-999;a1@1008+1-999;a2@2016+1-999;a3@3024+1-999;a4@4032+1-999;b0@5040+1-999;b1@6048+1-999;b2@7056+1-999;b3@8064+1-999", false, OK},
		{"j9k0d9071;a=1-999,1-999,1-999,1-999,1-999;b=1-999,1-999,1-999,1-999", 1, "", false, ErrSpent},
	})
}

func TestPlanWindow(t *testing.T) {
	runPlanCases(t, []planCase{
		// just possible, just hopeless: by MAX, MIN, HI, LO and J
		{"j1k1d99;a=2-3~5-8~4-4", 9, "j1;a0@0+2-3>0;a1@9+4-4<0:5-8", true, OK},
		{"j1k1d99;a=2-3~5-7~4-4", 9, "a1", false, ErrWindow},
		{"j1k1d99;a=2-3~6-8~4-4", 9, "a1", false, ErrWindow},
		{"j1k1d99;a=2-4~5-8~4-4", 9, "a1", false, ErrWindow},
		{"j1k1d99;a=1-3~5-8~4-4", 9, "a1", false, ErrWindow},
		{"j2k1d99;a=2-3~5-8~4-4", 9, "a1", false, ErrWindow},
		{"j9k1d99;a=1-1~0-17~1-1", 9, "a1", false, ErrWindow},
		{"j9k1d99;a=1-1~0-18~1-1", 9, "j9;a0@0+1-1>0;a1@10+1-1<0:0-18", true, OK},
		{"j9k1d99;a=1-1~0-0~1-1", 9, "a1", false, ErrWindow},
		// the step behind the rest has no part in it
		{"j0k1d99;a=1-1~1-1~1-9", 9, "j0;a0@0+1-1>0;a1@2+1-9<0:1-1", true, OK},
		// the first such rest, plates in their order
		{"j0k1d99;a=1-1~0-9~1-2~1-1~1-1;b=1-3~1-1~1-1", 9, "a2", false, ErrWindow},
		{"j0k1d99;a=1-1,1-2~1-1~1-1~1-1~1-3~1-1~1-1", 9, "a2", false, ErrWindow},
		{"j0k1d99;a=1-1;b=1-3,1-1~1-1~1-1,1-3~1-1~1-1", 9, "b4", false, ErrWindow},
		{"j0k1d99;a=1-1;b=1-1;c=1-1;d=1-2~1-1~1-1", 9, "d1", false, ErrWindow},
		// whatever the budget and the deadline
		{"j1k1d0;a=2-3~5-7~4-4", 0, "a1", false, ErrWindow},
		{"j1k1d99;a=2-3~5-7~4-4", 1000, "a1", false, ErrWindow},
	})
}

func TestPlanPlaces(t *testing.T) {
	const three = ";a=1-1~2-2~1-1;b=1-1~2-2~1-1;c=1-1~2-2~1-1"
	runPlanCases(t, []planCase{
		// K rests under way, and one more
		{"j0k3d6" + three, 90, "j0;a0@0+1-1>0;b0@1+1-1>1;c0@2+1-1>2;a1@3+1-1<0:2-2;b1@4+1-1<1:2-2;c1@5+1-1<2:2-2", true, OK},
		{"j0k4d6" + three, 90, "j0;a0@0+1-1>0;b0@1+1-1>1;c0@2+1-1>2;a1@3+1-1<0:2-2;b1@4+1-1<1:2-2;c1@5+1-1<2:2-2", true, OK},
		{"j0k2d7" + three, 90, "", false, ErrNone},
		{"j0k2d8" + three, 90, "j0;a0@0+1-1>0;b0@2+1-1>1;a1@3+1-1<0:2-2;c0@4+1-1>0;b1@5+1-1<1:2-2;c1@7+1-1<0:2-2", true, OK},
		{"j0k1d12" + three, 90, "j0;a0@0+1-1>0;a1@3+1-1<0:2-2;b0@4+1-1>0;b1@7+1-1<0:2-2;c0@8+1-1>0;c1@11+1-1<0:2-2", true, OK},
		{"j0k1d11" + three, 90, "", false, ErrNone},
		{"j0k1d12" + three, 6, "j0;a0@0+1-1>0;a1@3+1-1<0:2-2;b0@4+1-1>0;b1@7+1-1<0:2-2;c0@8+1-1>0;c1@11+1-1<0:2-2", true, OK},
		{"j0k1d12" + three, 5, "j0;a0@0+1-1>0;a1@3+1-1<0:2-2;b0@4+1-1>0;b1@7+1-1<0:2-2;c0@8+1-1>0;c1@11+1-1<0:2-2", false, OK},
		// a rest may begin with the step that ends another
		{"j0k1d99;a=1-1~1-1~1-1~1-1~1-1", 9, "j0;a0@0+1-1>0;a1@2+1-1<0:1-1>0;a2@4+1-1<0:1-1", true, OK},
		// a place is given anew, the lowest free one: here 1, where above it was 0
		{"j0k2d99;a=1-1~0-0~1-1~0-0~1-1;b=1-1~3-3~1-1", 90, "j0;b0@0+1-1>0;a0@1+1-1>1;a1@2+1-1<1:0-0>1;a2@3+1-1<1:0-0;b1@4+1-1<0:3-3", true, OK},
		{"j0k3d6;a=1-1~0-0~1-1;b=1-1~4-4~1-1;c=1-1~0-0~1-1", 90, "j0;b0@0+1-1>0;a0@1+1-1>1;a1@2+1-1<1:0-0;c0@3+1-1>1;c1@4+1-1<1:0-0;b1@5+1-1<0:4-4", true, OK},
	})
}

// TestPlanLeastOfTheBest: of the orders with the least END the least one is
// told, not the first in time and not the last.
func TestPlanLeastOfTheBest(t *testing.T) {
	runPlanCases(t, []planCase{
		{"j0k0d3;a=1-1;b=1-1;c=1-1", 6, "j0;a0@0+1-1;b0@1+1-1;c0@2+1-1", true, OK},
		// c0 first: b0 and a0 may stand either way behind it
		{"j0k1d9;a=1-1;b=1-1;c=1-1~2-2~1-1", 99, "j0;c0@0+1-1>0;a0@1+1-1;b0@2+1-1;c1@3+1-1<0:2-2", true, OK},
		{"j0k1d4;a=1-1;b=1-1;c=1-1~2-2~1-1", 99, "j0;c0@0+1-1>0;a0@1+1-1;b0@2+1-1;c1@3+1-1<0:2-2", true, OK},
		{"j0k1d3;a=1-1;b=1-1;c=1-1~2-2~1-1", 99, "", false, ErrNone},
	})
}

// TestPlanWaits: a step waits, so that a rest behind it does not grow too long.
func TestPlanWaits(t *testing.T) {
	runPlanCases(t, []planCase{
		// b0 would be over at 2, but b1 comes at 6 only
		{"j0k2d99;a=1-1~4-4~1-1;b=1-1~3-3~1-1", 2, "j0;a0@0+1-1>0;b0@2+1-1>1;a1@5+1-1<0:4-4;b1@6+1-1<1:3-3", false, OK},
	})
}

func TestPlanFirstNamedError(t *testing.T) {
	runPlanCases(t, []planCase{
		{"", -1, "", false, ErrForm},
		{strings.Repeat("j", 121), -1, "", false, ErrLong},
		{padded + ",", 9, "", false, ErrLong},
		{padded + ",", 1001, "", false, ErrLong},
		{"j1k1d99;a=2-3~5-7~4-4,", -1, "", false, ErrForm},
		{"j1k1d99;a=2-3~5-7~4-4,0-1", -1, "", false, ErrRange},
		{"j1k0d99;a=2-3~5-7~4-4", 9, "", false, ErrRange},
		{"j1k1d99;a=2-3~5-7~4-4;b=1-1;c=1-1;d=1-1;e=1-1", -1, "", false, ErrMany},
		{"j1k1d99;a=2-3~5-7~4-4;b=1-1;c=1-1;d=1-1;e=1-1", 9, "", false, ErrMany},
		{"j1k1d99;a=2-3~5-7~4-4", -1, "", false, ErrArg},
		{"j1k1d99;a=2-3~5-7~4-4", 1001, "", false, ErrArg},
		{"j0k0d0;a=1-1", -1, "", false, ErrArg},
		{"j1k1d0;a=2-3~5-7~4-4;b=1-1", 1, "a1", false, ErrWindow},
	})
}

// TestOrdersGoAsFarAsAsked: leaving the loop is the end of it, and whoever
// goes through the orders again finds them all.
func TestOrdersGoAsFarAsAsked(t *testing.T) {
	parsed, errno, _ := checked("j0k1d9;a=1-1~0-0~1-1,1-1;b=1-1~0-0~1-1")
	if errno != OK {
		t.Fatal(errno)
	}
	want := []string{"aaabb", "aabab", "aabba", "bbaaa"}
	orders := parsed.orders()
	for wanted := 1; wanted <= len(want); wanted++ {
		var got []string
		for order, follows := range orders {
			got = append(got, lettersOf(order))
			if follows != (len(got) < len(want)) {
				t.Errorf("P4: behind %d of %d orders another follows: %t", len(got), len(want), follows)
			}
			if len(got) == wanted {
				break
			}
		}
		if !slices.Equal(got, want[:wanted]) {
			t.Errorf("P4: the first %d orders are %q, want %q", wanted, got, want[:wanted])
		}
	}
}

func lettersOf(order []turn) string {
	letters := ""
	for _, t := range order {
		letters += t.name()[:1]
	}
	return letters
}

// TestPlanLongTextsByTheirLength: a text that is too long is not read, else
// its steps would have to be kept somewhere.
func TestPlanLongTextsByTheirLength(t *testing.T) {
	text := "j0k1d1;a=1-1" + strings.Repeat(",1-1", 1<<20)
	used := testing.AllocsPerRun(5, func() {
		if errno, place := Check(text); errno != ErrLong || place != 0 {
			t.Errorf("P1: Check of a long text = %d, %d", errno, place)
		}
		if out, all, errno := Plan(text, 9); out != "" || all || errno != ErrLong {
			t.Errorf("P1: Plan of a long text = %q, %t, %d", out, all, errno)
		}
	})
	if used != 0 {
		t.Errorf("P1: a long text is read: %v allocations", used)
	}
}

// TestPlanTakesAnything: no call panics, and beside an error nothing is told
// but the name with ErrWindow.
func TestPlanTakesAnything(t *testing.T) {
	const bytes = "0129jkdabz;=-,~ \x00\xff"
	const text = "j1k1d99;a=2-3~5-9~4-4,1-1;b=1-1"
	ask := func(protocol string, budget int) {
		out, all, errno := Plan(protocol, budget)
		checkErrno, _ := Check(protocol)
		switch {
		case checkErrno != OK && errno != checkErrno:
			t.Errorf("P4: Plan(%q, %d) tells %d, Check %d", protocol, budget, errno, checkErrno)
		case errno == ErrWindow && len(out) != 2, errno != OK && errno != ErrWindow && out != "", errno != OK && all:
			t.Errorf("P1: Plan(%q, %d) = %q, %t, %d", protocol, budget, out, all, errno)
		}
	}
	for i := range len(text) + 1 {
		for _, budget := range []int{-1, 0, 1, 1000, 1001} {
			ask(text[:i], budget)
			for _, b := range []byte(bytes) {
				ask(text[:i]+string([]byte{b})+text[i:], budget)
				if i < len(text) {
					ask(text[:i]+string([]byte{b})+text[i+1:], budget)
				}
			}
		}
	}
}
