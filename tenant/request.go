package tenant

import (
	"moneyer/api"
	"moneyer/digits"
	"moneyer/iso"
)

// The numbers of the fields.
const (
	fieldCard     = 2
	fieldProcess  = 3
	fieldAmount   = 4
	fieldTrace    = 11
	fieldTarget   = 32
	fieldCode     = 39
	fieldTerminal = 41
	fieldToken    = 48
	fieldPin      = 52
	fieldNetwork  = 70
	fieldOriginal = 90
)

// repeated are the fields of a message that its answer has as well.
var repeated = [...]int{fieldProcess, fieldAmount, fieldTrace, fieldTerminal, fieldNetwork}

// request is a valid message, with the tick at which it is answered.
type request struct {
	api.Message
	now int
}

// lacks tells whether one of the fields is missing.
func (r request) lacks(fields ...int) bool {
	for _, n := range fields {
		if _, has := iso.Value(r.Message, n); !has {
			return true
		}
	}
	return false
}

// value returns the value of a field, which isn't missing.
func (r request) value(field int) string {
	value, _ := iso.Value(r.Message, field)
	return value
}

// amount returns the number in the field for it.
func (r request) amount() int {
	// They are twelve digits, so there is a number.
	n, _ := digits.Number(r.value(fieldAmount))
	return n
}

// key returns that of the post of a transaction.
func (r request) key() string {
	return r.value(fieldTrace) + r.value(fieldTerminal)
}

// originalKey returns that of the post that is to be reversed: its type stands ahead of its trace number.
func (r request) originalKey() string {
	return r.value(fieldOriginal)[4:10] + r.value(fieldTerminal)
}

// isAdvice tells whether the message is about what was decided elsewhere: no limit applies to that.
func (r request) isAdvice() bool {
	return r.Type[2] == '2'
}

// answer returns the answer with a code and further fields.
func (r request) answer(code string, further ...api.Field) api.Message {
	a := api.Message{Type: r.Type[:2] + string(r.Type[2]+1) + r.Type[3:]}
	for _, n := range repeated {
		if value, has := iso.Value(r.Message, n); has {
			a = iso.Put(a, n, value)
		}
	}
	for _, f := range further {
		a = iso.Put(a, f.N, f.Value)
	}
	return iso.Put(a, fieldCode, code)
}

// rejection returns the answer to a message that isn't understood.
func rejection(code string) api.Message {
	return iso.Put(api.Message{Type: "0000"}, fieldCode, code)
}
