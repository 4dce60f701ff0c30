package tenant

import (
	"strconv"
	"strings"

	"moneyer/api"
	"moneyer/digits"
)

// blank stands between the parts of a stored answer, of which there are so many.
const (
	blank       = " "
	answerParts = 4
)

// outcome is what a stored answer consists of beside its code, and the card number of its token.
type outcome struct {
	number       string
	token        string
	target, tick int
}

// text returns the stored answer.
func (o outcome) text() string {
	return strings.Join([]string{api.CodeOk, o.token, strconv.Itoa(o.target), strconv.Itoa(o.tick)}, blank)
}

// outcomeOf returns that of a post in the ledger.
func (t *Tenant) outcomeOf(post api.Post) outcome {
	// The ledger takes no other answers, and what the vault converts back stays so.
	o, _ := t.readOutcome(post.Answer)
	return o
}

// readOutcome returns what a text consists of, and whether it is a stored answer.
func (t *Tenant) readOutcome(text string) (outcome, bool) {
	parts := strings.Split(text, blank)
	if len(parts) != answerParts || parts[0] != api.CodeOk {
		return outcome{}, false
	}
	number, err := t.Back(parts[1])
	if err != api.OK {
		return outcome{}, false
	}
	target, isTarget := readNumber(parts[2], 1, api.MaxTarget)
	tick, isTick := readNumber(parts[3], 0, api.MaxTick)
	if !isTarget || !isTick {
		return outcome{}, false
	}
	return outcome{number, parts[1], target, tick}, true
}

// readNumber returns the number that a text denotes, and whether it is one from least to most without leading zeros.
func readNumber(text string, least, most int) (int, bool) {
	n, err := digits.Number(text)
	if err != api.OK || strconv.Itoa(n) != text || n < least || n > most {
		return 0, false
	}
	return n, true
}
