package hatch

import (
	"sync"
	"testing"
)

// answers are what all four calls answer to the same texts.
type answers struct {
	checkErrno Errno
	checkPlace int
	planned    string
	all        bool
	planErrno  Errno
	lookErrno  Errno
	lookPlace  int
	told       string
	runErrno   Errno
}

type texts struct {
	protocol string
	budget   int
	table    string
	script   string
}

func answersOf(c texts) answers {
	var a answers
	a.checkErrno, a.checkPlace = Check(c.protocol)
	a.planned, a.all, a.planErrno = Plan(c.protocol, c.budget)
	a.lookErrno, a.lookPlace = Look(c.table)
	a.told, a.runErrno = Run(c.table, c.script)
	return a
}

// TestNothingIsKept: calls answer the same after any other calls, and beside
// them.
func TestNothingIsKept(t *testing.T) {
	calls := []texts{
		{"j1k1d99;a=2-3~5-9~4-4;b=1-1", 9, between, "2,2,2,2,2,2,2,2/3,1,4"},
		{"j1k1d99;a=2-3~5-9~4-4;b=1-1", 1, between, "3,3,3/2,1,4"},
		{"j0k2d99;a=1-1~9-9~1-1;b=1-1~9-9~1-1", 1000, between, "1,1,1,1/9"},
		{"j0k2d9;a=1-1~9-9~1-1;b=1-1~9-9~1-1", 1000, between, "/"},
		{"j1k1d99;a=2-3~5-7~4-4", 9, "j0;a0@0+1-5>0;a1@7+2-2<0:2-3", "4,3/3"},
		{"j1k1d99;a=2-3~5-9~4-4", -1, "j0;a0@0+1-5>0;a1@7+2-2<0:2-3", "4,3,2/4,2"},
		{"j1k1d99;a=2-3~5-9~4-", 3, "j0;a0@0+1-5>0;a1@7+2-2<1:2-3", "4,3,2/4,2"},
		{"j1k1d99;a=2-3~5-9~4-3", 3, "j0;a0@0+1-5>0;a1@7+2-2<", "4,3,2/4,2"},
		{plates(5), 3, between, "1,"},
		{"", 0, "", ""},
	}
	first := make([]answers, len(calls))
	for i, c := range calls {
		first[i] = answersOf(c)
	}
	again := func(i int) {
		if a := answersOf(calls[i]); a != first[i] {
			t.Errorf("P2: %+v is answered by %+v, and later by %+v", calls[i], first[i], a)
		}
	}
	for i := range calls {
		for j := range calls {
			again(j)
			again(i)
		}
	}
	var all sync.WaitGroup
	for i := range calls {
		all.Go(func() {
			for range 50 {
				again(i)
			}
		})
	}
	all.Wait()
}
