package hatch

const (
	maxScript = 800

	scriptDigits = 3
)

type parsedScript struct {
	clock []int // how far it goes on from one look to the next
	takes []int // how long each step of the table takes
}

func readScript(text string) (parsedScript, bool) {
	r := &reader{text: text}
	clock := r.numbers()
	r.take('/')
	takes := r.numbers()
	if r.failed || !r.ended() {
		return parsedScript{}, false
	}
	return parsedScript{clock, takes}, true
}

// numbers reads none only where no number begins: behind a comma there must be one.
func (r *reader) numbers() []int {
	if kind := r.kind(); kind != kindZero && kind != kindDigit {
		return nil
	}
	all := []int{r.number(scriptDigits)}
	for !r.failed && r.kind() == kindJoin {
		r.take(',')
		all = append(all, r.number(scriptDigits))
	}
	return all
}
