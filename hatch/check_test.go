package hatch

import (
	"regexp"
	"strings"
	"testing"
)

type checkCase struct {
	text  string
	errno Errno
	place int
}

func runCheckCases(t *testing.T, cases []checkCase) {
	t.Helper()
	for _, c := range cases {
		if errno, place := Check(c.text); errno != c.errno || place != c.place {
			t.Errorf("P3: Check(%.130q) = %d, %d, want %d, %d", c.text, errno, place, c.errno, c.place)
		}
	}
}

func TestErrnoNumbers(t *testing.T) {
	for i, e := range []Errno{OK, ErrLong, ErrForm, ErrRange, ErrMany, ErrArg, ErrWindow, ErrNone, ErrSpent, ErrTable, ErrScript} {
		if int(e) != i {
			t.Errorf("the constant at %d is %d", i, e)
		}
	}
}

func TestCheckExamples(t *testing.T) {
	runCheckCases(t, []checkCase{
		{"j1k1d99;a=2-3~5-9~4-4;b=1-1", OK, 0},
		{"j1k1d99", ErrForm, 7},
		{"j1k1d99;b=1-1", ErrForm, 8},
		{"j1k1d99;a=1-1,", ErrForm, 14},
		{"j1k1d99;a=01-1", ErrForm, 11},
		{"j1k1d0;a=1-1,3-2", ErrRange, 1},
		{"j1k0d0;a=1-1~1-9~1-1", ErrRange, 1},
	})
}

func TestCheckRightProtocols(t *testing.T) {
	runCheckCases(t, []checkCase{
		{"j0k0d0;a=1-1", OK, 0},
		{"j9k9d9999;a=999-999", OK, 0},
		{"j9k9d9999;a=999-999~999-999~999-999", OK, 0},
		{"j0k0d10;a=100-200,20-30;b=7-7", OK, 0},
		{"j0k1d1;a=1-1~0-0~1-1", OK, 0},
		{"j0k1d1;a=1-1~0-1~1-1,1-2~3-3~9-10", OK, 0},
		// a rest that cannot be kept is Plan's matter
		{"j9k1d1;a=1-999~9-9~1-1", OK, 0},
	})
}

// padded is a right protocol of 120 bytes, the most a text may have.
const padded = "j0k1d1;a=100-100~100-100~100-100~100-100~100-100~100-100~100-100~100-100~100-100;b=100-100~100-100~100-100~100-100~10-10"

func TestCheckLength(t *testing.T) {
	if len(padded) != maxText {
		t.Fatalf("the longest protocol here has %d bytes", len(padded))
	}
	runCheckCases(t, []checkCase{
		{padded, OK, 0},
		{padded + "0", ErrLong, 0},
		{padded + ";", ErrLong, 0},
		{padded[:119] + ",", ErrForm, 120},
		{padded[:119] + "x", ErrForm, 119},
		{strings.Repeat("x", 120), ErrForm, 0},
		{strings.Repeat("x", 121), ErrLong, 0},
		{strings.Repeat("\x00", 1<<20), ErrLong, 0},
	})
}

// TestCheckEndsTooEarly cuts a protocol at every place: only behind a whole
// step can it end.
func TestCheckEndsTooEarly(t *testing.T) {
	const text = "j1k2d9876;a=123-456~0-100~7-8,9-10;b=1-1~2-3~4-5"
	whole := map[int]int{17: 1, 18: 1, 19: 1, 29: 1, 33: 1, 34: 1, 40: 1, 48: 1}
	for end := range len(text) + 1 {
		errno, place := Check(text[:end])
		if whole[end] == 1 {
			if errno == ErrForm {
				t.Errorf("P3: Check(%q) = ErrForm, %d, but it is a protocol", text[:end], place)
			}
			continue
		}
		if errno != ErrForm || place != end {
			t.Errorf("P3: Check(%q) = %d, %d, want ErrForm, %d", text[:end], errno, place, end)
		}
	}
}

func TestCheckNumbers(t *testing.T) {
	runCheckCases(t, []checkCase{
		{"j10k1d1;a=1-1", ErrForm, 2},
		{"j00k1d1;a=1-1", ErrForm, 2},
		{"j1k10d1;a=1-1", ErrForm, 4},
		{"j1k1d10000;a=1-1", ErrForm, 9},
		{"j1k1d00;a=1-1", ErrForm, 6},
		{"j1k1d0123;a=1-1", ErrForm, 6},
		{"j1k1d1;a=1000-1", ErrForm, 12},
		{"j1k1d1;a=1-1000", ErrForm, 14},
		{"j1k1d1;a=00-1", ErrForm, 10},
		{"j1k1d1;a=1-01", ErrForm, 12},
		{"j1k1d1;a=1-1~1000-1000~1-1", ErrForm, 16},
		{"j1k1d1;a=1-1~01-1~1-1", ErrForm, 14},
		{"j1k1d1;a=1-1~1-1000~1-1", ErrForm, 18},
		{"j1k1d1;a=1-1~1-01~1-1", ErrForm, 16},
		{"j1k1d1;a=-1-1", ErrForm, 9},
		{"j1k1d1;a=+1-1", ErrForm, 9},
		{"j1k1d1;a=1.5-2", ErrForm, 10},
		{"j1k1d1;a=1-\u0661", ErrForm, 11},
		{"j1k1d1;a=1-1\u0661", ErrForm, 12},
	})
}

// plates is a protocol of so many plates of one step.
func plates(number int) string {
	text := "j0k0d0"
	for i := range number {
		text += ";" + string(rune('a'+i)) + "=1-1"
	}
	return text
}

func TestCheckLetters(t *testing.T) {
	runCheckCases(t, []checkCase{
		{"j1k1d1;b=1-1", ErrForm, 7},
		{"j1k1d1;A=1-1", ErrForm, 7},
		{"j1k1d1;z=1-1", ErrForm, 7},
		{"j1k1d1;=1-1", ErrForm, 7},
		{"j1k1d1;a=1-1;a=1-1", ErrForm, 13},
		{"j1k1d1;a=1-1;c=1-1", ErrForm, 13},
		{"j1k1d1;a=1-1;b=1-1;a=1-1", ErrForm, 19},
		{"j1k1d1;aa=1-1", ErrForm, 8},
		// as many as a text has room for: it is the number that is wrong
		{plates(19), ErrMany, 0},
		{plates(18) + ";t=1-1", ErrForm, 115},
		{plates(20), ErrLong, 0},
	})
}

// TestLettersToTheLast reads longer texts than Check lets through: the form
// itself ends with z.
func TestLettersToTheLast(t *testing.T) {
	parsed, _, ok := readProtocol(plates(26))
	if !ok || len(parsed.plates) != 26 {
		t.Errorf("26 plates: %d, %t", len(parsed.plates), ok)
	}
	if _, _, ok := readProtocol(plates(27)); ok {
		t.Error("a 27th plate has a letter behind z")
	}
}

func TestCheckWrongMarks(t *testing.T) {
	runCheckCases(t, []checkCase{
		{"x", ErrForm, 0},
		{"J1k1d1;a=1-1", ErrForm, 0},
		{" j1k1d1;a=1-1", ErrForm, 0},
		{"k1j1d1;a=1-1", ErrForm, 0},
		{"j1d1k1;a=1-1", ErrForm, 2},
		{"j1k1;a=1-1", ErrForm, 4},
		{"j1k1d1,a=1-1", ErrForm, 6},
		{"j1k1d1;;a=1-1", ErrForm, 7},
		{"j1k1d1;a:1-1", ErrForm, 8},
		{"j1k1d1;a=;b=1-1", ErrForm, 9},
		{"j1k1d1;a=1,1", ErrForm, 10},
		{"j1k1d1;a=1-1-1", ErrForm, 12},
		{"j1k1d1;a=1-1\n", ErrForm, 12},
		{"j1k1d1;a=1-1\x00", ErrForm, 12},
		{"j1k1d1;a=1-1\xff", ErrForm, 12},
		{"j1k1d1;a=1-1,,1-1", ErrForm, 13},
		{"j1k1d1;a=1-1,;b=1-1", ErrForm, 13},
		{"j1k1d1;a=1-1,~1-1~1-1", ErrForm, 13},
		{"j1k1d1;a=1-1~~1-1", ErrForm, 13},
		{"j1k1d1;a=1-1~1~1-1", ErrForm, 14},
		{"j1k1d1;a=1-1~1-1,1-1", ErrForm, 16},
		{"j1k1d1;a=1-1~1-1;b=1-1", ErrForm, 16},
		{"j1k1d1;a=1-1~1-1~,1-1", ErrForm, 17},
		{"j1k1d1;a=1-1~1-1~;b=1-1", ErrForm, 17},
		{"j1k1d1;a=~1-1~1-1", ErrForm, 9},
	})
}

func TestCheckRange(t *testing.T) {
	runCheckCases(t, []checkCase{
		{"j1k1d1;a=0-1", ErrRange, 0},
		{"j1k1d1;a=0-0", ErrRange, 0},
		{"j1k1d1;a=2-1", ErrRange, 0},
		{"j1k1d1;a=999-998", ErrRange, 0},
		{"j1k1d1;a=10-9", ErrRange, 0},
		{"j1k1d1;a=1-1,0-1", ErrRange, 1},
		{"j1k1d1;a=1-1~1-0~1-1", ErrRange, 1},
		{"j1k1d1;a=1-1~10-9~1-1", ErrRange, 1},
		{"j1k1d1;a=1-1,1-1~1-0~1-1", ErrRange, 2},
		{"j1k0d1;a=1-1~0-0~1-1", ErrRange, 1},
		{"j1k0d1;a=1-1,1-1;b=1-1,1-1~1-1~1-1", ErrRange, 4},
		{"j1k0d1;a=1-1,1-1;b=1-1,1-1", OK, 0},
		// steps are counted through all plates
		{"j1k1d1;a=1-1,1-1;b=1-1;c=1-1,2-1", ErrRange, 4},
	})
}

func TestCheckFirstWrongStep(t *testing.T) {
	runCheckCases(t, []checkCase{
		{"j1k1d1;a=1-1,2-1,0-1", ErrRange, 1},
		{"j1k1d1;a=0-1~2-1~1-1", ErrRange, 0},
		{"j1k1d1;a=1-1~2-1~0-1", ErrRange, 1},
		{"j1k1d1;a=1-1,0-1~2-1~1-1", ErrRange, 1},
		{"j1k0d1;a=1-1,2-1~1-1~1-1", ErrRange, 1},
		{"j1k0d1;a=1-1~1-1~1-1,2-1", ErrRange, 1},
		{"j1k0d1;a=1-1;b=1-1~1-1~1-1;c=0-1", ErrRange, 2},
	})
}

func TestCheckMany(t *testing.T) {
	const one = ",1-1"
	runCheckCases(t, []checkCase{
		{plates(maxPlates), OK, 0},
		{plates(maxPlates + 1), ErrMany, 0},
		{plates(1) + strings.Repeat(one, maxSteps-1), OK, 0},
		{plates(1) + strings.Repeat(one, maxSteps), ErrMany, 0},
		{plates(2) + strings.Repeat(one, maxSteps-1), OK, 0},
		{plates(2) + strings.Repeat(one, maxSteps), ErrMany, 0},
		{"j0k0d0;a=1-1,1-1,1-1,1-1;b=1-1,1-1,1-1,1-1,1-1", OK, 0},
		{"j0k0d0;a=1-1,1-1,1-1,1-1,1-1;b=1-1,1-1,1-1,1-1,1-1", ErrMany, 0},
		{"j0k0d0;a=1-1,1-1;b=1-1,1-1;c=1-1,1-1;d=1-1,1-1,1-1", OK, 0},
		{"j0k0d0;a=1-1,1-1;b=1-1,1-1;c=1-1,1-1,1-1;d=1-1,1-1,1-1", ErrMany, 0},
		// steps with a rest between them count like others
		{"j0k1d0;a=1-1~1-1~1-1~1-1~1-1~1-1~1-1~1-1~1-1", OK, 0},
		{"j0k1d0;a=1-1~1-1~1-1~1-1~1-1~1-1~1-1~1-1~1-1~1-1~1-1", ErrMany, 0},
	})
}

func TestCheckFirstNamedError(t *testing.T) {
	runCheckCases(t, []checkCase{
		// long ahead of form, range and many
		{"x" + strings.Repeat("1", 120), ErrLong, 0},
		{"j0k0d0;a=0-1" + strings.Repeat(",1-1", 40), ErrLong, 0},
		// form ahead of range and many
		{"j0k0d0;a=0-0x", ErrForm, 12},
		{"j0k0d0;a=1-1~2-1~0-1,", ErrForm, 21},
		{plates(5) + ";", ErrForm, 37},
		{plates(1) + strings.Repeat(",1-1", 5) + "x", ErrForm, 32},
		// range ahead of many, also where the step is one too many
		{plates(4) + ";e=0-1", ErrRange, 4},
		{plates(1) + strings.Repeat(",1-1", 4) + ",2-1", ErrRange, 5},
		{plates(1) + strings.Repeat(",1-1", 4) + "~1-1~1-1", ErrRange, 5},
		{"j0k0d0;a=0-1" + strings.Repeat(",1-1", 5), ErrRange, 0},
	})
}

var protocolForm = func() *regexp.Regexp {
	const bounds = `(0|[1-9][0-9]{0,2})-(0|[1-9][0-9]{0,2})`
	return regexp.MustCompile(`\Aj[0-9]k[0-9]d(0|[1-9][0-9]{0,3})(;[a-z]=` + bounds + `((,|~` + bounds + `~)` + bounds + `)*)+\z`)
}()

func isProtocol(text string) bool {
	if !protocolForm.MatchString(text) {
		return false
	}
	for i, plate := range strings.Split(text, ";")[1:] {
		if plate[0] != byte('a'+i) {
			return false
		}
	}
	return true
}

// canGoOn tells whether some protocol begins with the text: every state of
// the form is left behind by one of the endings.
func canGoOn(text string) bool {
	for letter := 'a'; letter <= 'e'; letter++ {
		ending := "j1k1d1;" + string(letter) + "=1-1~1-1~1-1"
		for i := range len(ending) + 1 {
			if isProtocol(text + ending[i:]) {
				return true
			}
		}
	}
	return false
}

func checkFormOf(t *testing.T, text string) {
	t.Helper()
	errno, place := Check(text)
	if isProtocol(text) {
		if errno == ErrForm || errno == ErrLong {
			t.Errorf("P3: Check(%q) = %d, %d, but it is a protocol", text, errno, place)
		}
		return
	}
	if errno != ErrForm || place < 0 || place > len(text) {
		t.Errorf("P3: Check(%q) = %d, %d, but it is no protocol", text, errno, place)
		return
	}
	if !canGoOn(text[:place]) || place < len(text) && canGoOn(text[:place+1]) {
		t.Errorf("P3: Check(%q) = ErrForm, %d: not the first byte that cannot stand there", text, place)
	}
}

// TestCheckNearProtocols holds Check against a second reading of the form,
// at every text that is one byte away from a protocol.
func TestCheckNearProtocols(t *testing.T) {
	const bytes = "019jkdabcz;=-,~ \x00\xc3"
	for _, text := range []string{"j1k1d9999;a=2-300~5-10~4-4,1-1;b=1-1;c=10-20", "j0k0d0;a=0-0"} {
		for i := range len(text) {
			checkFormOf(t, text[:i]+text[i+1:])
			for _, b := range []byte(bytes) {
				checkFormOf(t, text[:i]+string([]byte{b})+text[i:])
				checkFormOf(t, text[:i]+string([]byte{b})+text[i+1:])
			}
		}
		for _, b := range []byte(bytes) {
			checkFormOf(t, text+string([]byte{b}))
		}
	}
}

// TestCheckEveryByte puts each of the 256 bytes at each place.
func TestCheckEveryByte(t *testing.T) {
	const text = "j1k1d1;a=1-1~1-1~1-1"
	for i := range len(text) {
		for b := range 256 {
			checkFormOf(t, text[:i]+string([]byte{byte(b)})+text[i+1:])
		}
	}
}
