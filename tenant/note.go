package tenant

import (
	"strconv"
	"strings"

	"moneyer/api"
	"moneyer/pan"
)

// Note returns a message as a text that may be shown.
func Note(m api.Message) string {
	note := appendNote(nil, m.Type)
	for _, f := range m.Fields {
		if len(note) == api.MaxNote {
			break
		}
		note = appendNote(note, " ", strconv.Itoa(max(f.N, 0)), "=", masked(f))
	}
	return string(note)
}

// appendNote returns a note followed by texts, as far as there is room for them.
func appendNote(note []byte, texts ...string) []byte {
	for _, text := range texts {
		note = append(note, text[:min(len(text), api.MaxNote-len(note))]...)
	}
	return note
}

// masked returns the value of a field as it may be shown.
func masked(f api.Field) string {
	switch f.N {
	case fieldCard, fieldToken:
		return pan.Mask(f.Value)
	case fieldPin, fieldOriginal:
		// A note has no room for more.
		return strings.Repeat("*", min(len(f.Value), api.MaxNote))
	}
	return f.Value
}
