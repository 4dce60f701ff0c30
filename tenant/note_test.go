package tenant

import (
	"fmt"
	"slices"
	"strings"
	"testing"

	"moneyer/api"
	"moneyer/pan"
	"moneyer/samples"
)

// P18.6: Note.

// noteOf is the note of a message as the document words it.
func noteOf(m api.Message) string {
	var note strings.Builder
	note.WriteString(m.Type)
	for _, f := range m.Fields {
		value := f.Value
		if f.N == 2 || f.N == 48 {
			value = pan.Mask(value)
		} else if f.N == 52 || f.N == 90 {
			value = strings.Repeat("*", len(value))
		}
		fmt.Fprintf(&note, " %d=%s", max(0, f.N), value)
	}
	return note.String()[:min(200, note.Len())]
}

// notes asks for the note of a message.
func notes(t *testing.T, m api.Message, want string) {
	t.Helper()
	if got := Note(m); got != want || got != noteOf(m) {
		t.Fatalf("Note(%s): %q; want %q", short(m), got, want)
	}
}

func TestNote(t *testing.T) {
	notes(t, message(""), "")
	notes(t, message("0800"), "0800")
	notes(t, sale("0100", visa, 60, "000001"), "0100 2=411111******1111 4=000000000060 11=000001 41=TERM0001")
	notes(t, undo("0400", "000001"), "0400 41=TERM0001 90="+strings.Repeat("*", 42))
	notes(t, message("0110", api.Field{N: 48, Value: "4111119999991111.2"}), "0110 48=411111******1111.2")
	notes(t, message("0100", api.Field{N: 52, Value: "12345678"}), "0100 52=********")
}

// Each field alone: only four of them are masked.
func TestFieldsOfNotes(t *testing.T) {
	for n := range 300 {
		for value, shown := range map[string]string{
			"": "", "7": "*", "x y=z": "*****", "é": "**", "\x00\xff": "**", "4111111111111111": "411111******1111", "4111111111111112": "411111******1112",
			"1234567890123456789": "123456*********6789", "4111119999991111.255": "411111******1111.255", "4111119999991111.256": strings.Repeat("*", 20), "12345678901234567890": strings.Repeat("*", 20),
			strings.Repeat("7", 32): strings.Repeat("*", 32), strings.Repeat("7", 33): strings.Repeat("*", 32), strings.Repeat("7", 150): strings.Repeat("*", 32),
		} {
			switch n {
			case 2, 48:
			case 52, 90:
				shown = strings.Repeat("*", len(value))
			default:
				shown = value
			}
			notes(t, message("0100", api.Field{N: n, Value: value}), fmt.Sprintf("0100 %d=%s", n, shown))
		}
	}
}

// Messages that aren't valid have notes as well.
func TestNotesOfWrongMessages(t *testing.T) {
	notes(t, message("x"), "x")
	notes(t, message("\x00\xff", api.Field{N: 4, Value: "a"}), "\x00\xff 4=a")
	notes(t, message("", api.Field{N: 4}), " 4=")
	notes(t, message("0100", api.Field{N: 41, Value: "b"}, api.Field{N: 41, Value: "b"}, api.Field{N: 2, Value: "7"}, api.Field{N: 2, Value: visa}), "0100 41=b 41=b 2=* 2=411111******1111")
	for _, n := range []int{0, -1, -2, -48, -90, api.MinInt} {
		notes(t, message("0100", api.Field{N: n, Value: visa}), "0100 0="+visa)
	}
	notes(t, message("0100", api.Field{N: api.MaxInt, Value: "a"}), "0100 9223372036854775807=a")
	notes(t, message("0100", api.Field{N: 1 << 32, Value: "a"}), "0100 4294967296=a")
	notes(t, message("0100", api.Field{N: 1<<32 + 2, Value: visa}), "0100 4294967298="+visa)
}

// A note ends wherever it has 200 bytes: in a type, a number, a value or a mask.
func TestNotesAreTruncated(t *testing.T) {
	for n := range 220 {
		kind := strings.Repeat("t", n)
		for _, fields := range [][]api.Field{
			nil,
			{{N: 123, Value: "abcdefgh"}},
			{{N: 2, Value: visa}, {N: 4, Value: "x"}},
			{{N: 52, Value: "12345678"}, {N: 90, Value: "1"}},
			{{N: -1}, {N: -1}, {N: 48, Value: visa + ".17"}},
		} {
			m := message(kind, fields...)
			notes(t, m, noteOf(m))
		}
	}
	for _, size := range []int{194, 195, 196, 197, 1000, 1 << 16, 1 << 20} {
		long := strings.Repeat("z", size)
		notes(t, message(long), strings.Repeat("z", min(size, 200)))
		notes(t, message("0100", api.Field{N: 4, Value: long}), "0100 4="+strings.Repeat("z", min(size, 193)))
		notes(t, message("0100", api.Field{N: 52, Value: long}, api.Field{N: 4, Value: long}), noteOf(message("0100", api.Field{N: 52, Value: long}, api.Field{N: 4, Value: long})))
		notes(t, message("0100", api.Field{N: 90, Value: long}), "0100 90="+strings.Repeat("*", min(size, 192)))
		notes(t, message("0100", api.Field{N: 2, Value: long}), "0100 2="+strings.Repeat("*", 32))
	}
	many := message("0100", slices.Repeat([]api.Field{{N: 4, Value: "a"}}, 1<<16)...)
	notes(t, many, "0100"+strings.Repeat(" 4=a", 49))
	notes(t, everything("0100"), noteOf(everything("0100")))
}

func TestRandomNotes(t *testing.T) {
	from := samples.New(250)
	for range 5000 {
		m := message(string(from.Bytes(from.Below(6))))
		for range from.Below(8) {
			value := string(from.Bytes(from.Below(30)))
			switch from.Below(4) {
			case 0:
				value = from.Digits(14 + from.Below(7))
			case 1:
				value = fmt.Sprintf("%s.%d", from.Digits(15+from.Below(6)), from.Below(300))
			}
			m.Fields = append(m.Fields, api.Field{N: []int{2, 48, 52, 90, from.Below(128), -from.Below(128)}[from.Below(6)], Value: value})
		}
		notes(t, m, noteOf(m))
	}
}

// P18.10: neither notes nor answers show a middle.

func TestNoNoteShowsAMiddle(t *testing.T) {
	from := samples.New(251)
	for range 500 {
		o := anyone(from)
		x, other := o.tenant(t), o.tenant(t)
		bin, last, size := from.Digits(6), from.Digits(4), 6+from.Below(4)
		one, another := bin+from.Digits(size)+last, bin+from.Digits(size)+last
		for _, y := range []*Tenant{x, other} {
			ok(t, y.SetRule(wide))
			ok(t, y.PutRoute(bin[:1], 7))
		}
		m := everything([]string{"0100", "0120", "0200", "0220", "0400", "0300", "xx"}[from.Below(7)])
		if from.Below(2) == 0 {
			m = with(m, 48, "x")
		}
		first, second := with(m, 2, one), with(m, 2, another)
		if from.Below(2) == 0 {
			first, second = with(first, 48, one), with(second, 48, another)
		}
		if Note(first) != Note(second) {
			t.Fatalf("%v and %v: %q and %q", first, second, Note(first), Note(second))
		}
		a, b := x.Handle(first, 3), other.Handle(second, 3)
		if pan.Is(one) == pan.Is(another) && Note(a) != Note(b) {
			t.Fatalf("%v and %v: %q and %q", first, second, Note(a), Note(b))
		}
	}
}

// The middle of a card number is in no answer: of the first one, the repeated one and the others.
func TestNoAnswerShowsAMiddle(t *testing.T) {
	from := samples.New(252)
	for range 300 {
		o := anyone(from)
		x := o.open(t, wide)
		s := from.Card(16 + from.Below(4))
		for s[0] != '4' {
			s = from.Card(16 + from.Below(4))
		}
		hidden := s[6 : len(s)-4]
		m := sale("0100", s, 60, "000001")
		for _, a := range []api.Message{
			x.Handle(with(m, 2, s[:len(s)-1]), 3), x.Handle(m, 3), x.Handle(m, 4), x.Handle(with(m, 4, "000000000061"), 5), x.Handle(undo("0400", "000001"), 6), x.Handle(with(everything("0800"), 2, s), 7),
		} {
			for _, f := range a.Fields {
				if strings.Contains(f.Value, hidden) {
					t.Fatalf("%q is shown by %v", s, a)
				}
			}
			if strings.Contains(Note(a), hidden) {
				t.Fatalf("%q is shown by %q", s, Note(a))
			}
		}
		if strings.Contains(Note(m), hidden) || strings.Contains(string(x.State()), hidden) {
			t.Fatalf("%q is shown", s)
		}
	}
}
