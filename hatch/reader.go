package hatch

// What a byte of a text may be.
const (
	kindNone   uint8 = iota // stands nowhere in a text
	kindZero                // a number of its own, or a digit behind the first
	kindDigit               // any digit of a number
	kindPlate               // names a plate, of a table too
	kindLetter              // names a plate of a protocol only, or a number at a text's head
	kindJoin                // stands between two steps without a rest, or between two numbers
	kindRest                // stands at either end of a rest
	kindFrom                // a plate leaves the place behind it
	kindInto                // a plate comes into the place behind it
	kindMark                // any other byte that a form asks for by itself
)

var byteKinds = [128]uint8{
	'0': kindZero,
	'1': kindDigit, '2': kindDigit, '3': kindDigit,
	'4': kindDigit, '5': kindDigit, '6': kindDigit,
	'7': kindDigit, '8': kindDigit, '9': kindDigit,
	'a': kindPlate, 'b': kindPlate, 'c': kindPlate, 'd': kindPlate,
	'e': kindLetter, 'f': kindLetter, 'g': kindLetter, 'h': kindLetter,
	'i': kindLetter, 'j': kindLetter, 'k': kindLetter, 'l': kindLetter,
	'm': kindLetter, 'n': kindLetter, 'o': kindLetter, 'p': kindLetter,
	'q': kindLetter, 'r': kindLetter, 's': kindLetter, 't': kindLetter,
	'u': kindLetter, 'v': kindLetter, 'w': kindLetter, 'x': kindLetter,
	'y': kindLetter, 'z': kindLetter,
	',': kindJoin,
	'~': kindRest,
	'<': kindFrom,
	'>': kindInto,
	';': kindMark, '=': kindMark, '-': kindMark, '@': kindMark,
	'+': kindMark, ':': kindMark, '/': kindMark,
}

// A reader goes through a text byte by byte. Once a byte cannot stand where
// it does, the reader stays at it, so that its place can be told.
type reader struct {
	text   string
	at     int
	failed bool
}

func (r *reader) ended() bool { return r.at >= len(r.text) }

// kind is kindNone at the text's end too: nothing that is asked for is there.
func (r *reader) kind() uint8 {
	if r.ended() || r.text[r.at] >= 128 {
		return kindNone
	}
	return byteKinds[r.text[r.at]]
}

func (r *reader) take(want byte) {
	if r.failed || r.ended() || r.text[r.at] != want {
		r.failed = true
		return
	}
	r.at++
}

// number leaves a digit too many, or one behind a leading 0, to whoever
// reads on: it is the first byte that cannot stand there.
func (r *reader) number(mostDigits int) int {
	if r.failed {
		return 0
	}
	switch r.kind() {
	case kindZero:
		r.at++
		return 0
	case kindDigit:
		return r.digits(mostDigits)
	}
	r.failed = true
	return 0
}

func (r *reader) digits(most int) int {
	value := 0
	for range most {
		if kind := r.kind(); kind != kindZero && kind != kindDigit {
			break
		}
		value = value*10 + int(r.text[r.at]-'0')
		r.at++
	}
	return value
}

func (r *reader) takeBounds() bounds {
	low := r.number(boundDigits)
	r.take('-')
	high := r.number(boundDigits)
	return bounds{low, high}
}
