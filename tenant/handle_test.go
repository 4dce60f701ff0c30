package tenant

import (
	"bytes"
	"fmt"
	"strings"
	"testing"

	"moneyer/api"
	"moneyer/samples"
)

// P18.2: Handle.

func TestExamples(t *testing.T) {
	x := someone.open(t, api.Rule{Ticks: 10, Times: 2, Sum: 100, Once: 80})
	token := someone.token(t, 1, visa)
	first := sale("0100", visa, 60, "000001")
	approving := message("0110", api.Field{N: 4, Value: "000000000060"}, api.Field{N: 11, Value: "000001"}, api.Field{N: 32, Value: "7"},
		api.Field{N: 39, Value: "00"}, api.Field{N: 41, Value: "TERM0001"}, api.Field{N: 48, Value: token})
	answers(t, x, first, 3, approving)
	changesNothing(t, x, first, 3, approving)
	declines(t, x, sale("0100", visa, 61, "000001"), 3, "94")
	declines(t, x, sale("0100", visa, 50, "000002"), 3, "61")
	answers(t, x, message("0400", api.Field{N: 41, Value: "TERM0001"}, api.Field{N: 90, Value: "0100000001" + strings.Repeat("0", 32)}), 3,
		message("0410", api.Field{N: 39, Value: "00"}, api.Field{N: 41, Value: "TERM0001"}))
	if x.Total() != 0 {
		t.Errorf("Total: %d", x.Total())
	}
	changesNothing(t, x, message("0800", api.Field{N: 70, Value: "301"}), 3, message("0810", api.Field{N: 39, Value: "00"}, api.Field{N: 70, Value: "301"}))
	changesNothing(t, x, message("0300"), 3, refused("12"))
}

// Messages that aren't valid, of types that are and aren't listed.
func TestMessagesThatAreNotValid(t *testing.T) {
	x := someone.open(t, wide)
	var wrong []api.Message
	for _, kind := range []string{"", "0", "010", "01000", "010x", " 100", "0100 ", "01 0", "\x00100", "０１", strings.Repeat("0", 1<<16)} {
		wrong = append(wrong, message(kind), message(kind, sale("0100", visa, 1, "000001").Fields...))
	}
	for _, kind := range []string{"0100", "0120", "0200", "0220", "0400", "0420", "0800", "0300", "9999"} {
		m := everything(kind)
		for i, f := range m.Fields {
			broken := func(n int, value string) {
				w := everything(kind)
				w.Fields[i] = api.Field{N: n, Value: value}
				wrong = append(wrong, w)
			}
			broken(f.N, "")
			broken(f.N, f.Value+"é")
			broken(f.N, strings.Repeat("1", 1000))
			broken(-f.N, f.Value)
			broken(f.N+128, f.Value)
			broken(5, f.Value)
			broken(2, visa)
			if i == 0 {
				wrong = wrong[:len(wrong)-1]
			}
			wrong = append(wrong, message(kind, append(everything(kind).Fields, f)...))
		}
		m.Fields[3], m.Fields[4] = m.Fields[4], m.Fields[3]
		wrong = append(wrong, m)
	}
	for _, m := range wrong {
		changesNothing(t, x, m, 3, refused("30"))
		changesNothing(t, x, m, -1, refused("30"))
	}
}

func TestTicks(t *testing.T) {
	for _, m := range []api.Message{sale("0100", visa, 1, "000001"), sale("0120", visa, 1, "000001"), undo("0400", "000001"), everything("0800"), message("0300"), message("x")} {
		x := someone.open(t, wide)
		for _, now := range outside(0, maxTick) {
			changesNothing(t, x, m, now, refused("30"))
		}
	}
	for i, now := range []int{0, 1, 3, 255, 256, 1 << 32, maxTick - 1, maxTick} {
		x := someone.open(t, wide)
		m := sale([]string{"0100", "0200", "0120", "0220"}[i%4], visa, 1, "000001")
		approves(t, x, m, now, 7, someone.token(t, 1, visa))
		reverses(t, x, undo("0400", "000001"), now, "000001TERM0001")
		answers(t, x, everything("0800"), now, reply(everything("0800"), "00", "", ""))
		answers(t, x, message("0300"), now, refused("12"))
	}
}

// listed are the types that are answered.
const listed = " 0100 0120 0200 0220 0400 0420 0800 "

func TestTypes(t *testing.T) {
	x := someone.open(t, wide)
	for n := range 10000 {
		kind := fmt.Sprintf("%04d", n)
		if strings.Contains(listed, kind) {
			declines(t, x, message(kind), 3, "30")
		} else {
			changesNothing(t, x, message(kind), 3, refused("12"))
			changesNothing(t, x, sale(kind, visa, 1, "000001"), 3, refused("12"))
		}
	}
}

// The type of the answer to each type.
func TestTypesOfAnswers(t *testing.T) {
	x := someone.open(t, wide)
	for kind, want := range map[string]string{"0100": "0110", "0120": "0130", "0200": "0210", "0220": "0230", "0400": "0410", "0420": "0430", "0800": "0810"} {
		for _, m := range []api.Message{everything(kind), message(kind)} {
			if got := x.Handle(m, 3).Type; got != want {
				t.Errorf("the answer to %s: %s; want %s", kind, got, want)
			}
		}
	}
}

// Of all fields of a message an answer has five.
func TestFieldsOfAnswers(t *testing.T) {
	echo := func(further ...api.Field) []api.Field {
		fields := []api.Field{{N: 3, Value: "111111"}, {N: 4, Value: "000000000060"}, {N: 11, Value: "000001"}}
		fields = append(fields, further...)
		return append(fields, api.Field{N: 70, Value: "111"})
	}
	terminal := api.Field{N: 41, Value: "TERM0001"}
	for _, kind := range []string{"0100", "0120", "0200", "0220"} {
		x := someone.open(t, wide)
		token := someone.token(t, 1, visa)
		want := message(kind[:2]+string(kind[2]+1)+"0", echo(api.Field{N: 32, Value: "7"}, api.Field{N: 39, Value: "00"}, terminal, api.Field{N: 48, Value: token})...)
		answers(t, x, everything(kind), 3, want)
		changesNothing(t, x, everything(kind), 3, want)
		changesNothing(t, x, with(everything(kind), 2, numbers(1)[0]), 3, message(want.Type, echo(api.Field{N: 39, Value: "94"}, terminal)...))
		changesNothing(t, x, with(everything(kind), 2, "1"), 3, message(want.Type, echo(api.Field{N: 39, Value: "14"}, terminal)...))
		changesNothing(t, x, without(everything(kind), 41), 3, message(want.Type, echo(api.Field{N: 39, Value: "30"})...))
		answers(t, x, everything("0400"), 3, message("0410", echo(api.Field{N: 39, Value: "00"}, terminal)...))
		answers(t, x, everything("0420"), 3, message("0430", echo(api.Field{N: 39, Value: "00"}, terminal)...))
	}
	x := someone.open(t, wide)
	changesNothing(t, x, everything("0400"), 3, message("0410", echo(api.Field{N: 39, Value: "25"}, terminal)...))
	changesNothing(t, x, everything("0800"), 3, message("0810", echo(api.Field{N: 39, Value: "00"}, terminal)...))
	changesNothing(t, x, everything("0300"), 3, refused("12"))
}

// Each of the fields that are needed, missing alone and with others; other fields may be missing.
func TestMissingFields(t *testing.T) {
	needed := map[string][]int{"0400": {41, 90}, "0420": {41, 90}, "0800": {70}}
	for _, kind := range []string{"0100", "0120", "0200", "0220"} {
		needed[kind] = []int{2, 4, 11, 41}
	}
	for kind, fields := range needed {
		x := someone.open(t, wide)
		approves(t, x, everything("0120"), 3, 7, someone.token(t, 1, visa))
		for _, f := range everything(kind).Fields {
			m := without(everything(kind), f.N)
			is := false
			for _, n := range fields {
				is = is || n == f.N
			}
			if !is {
				if got := valueOf(x.Handle(m, 3), 39); got != "00" {
					t.Errorf("%s without %d: %s", kind, f.N, got)
				}
				continue
			}
			declines(t, x, m, 3, "30")
			for _, n := range fields {
				declines(t, x, without(m, n), 3, "30")
			}
			// A wrong card number counts behind a missing field.
			if f.N != 2 && kind != "0800" {
				declines(t, x, with(m, 2, "1"), 3, "30")
			}
		}
	}
}

func TestWhatIsNoCardNumber(t *testing.T) {
	var wrong []string
	for n := 1; n <= 19; n++ {
		if n < 16 {
			wrong = append(wrong, strings.Repeat("0", n), samples.New(n).Card(max(n, 2)))
		}
		wrong = append(wrong, strings.Repeat("0", n-1)+"1")
	}
	for d := range 10 {
		if d != 1 {
			wrong = append(wrong, fmt.Sprint(visa[:15], d))
		}
	}
	for _, kind := range []string{"0100", "0120", "0200", "0220"} {
		x := someone.open(t, wide)
		for _, prefix := range []string{"0", "1", "2", "3"} {
			ok(t, x.PutRoute(prefix, 1))
		}
		for _, s := range wrong {
			declines(t, x, sale(kind, s, 1, "000001"), 3, "14")
		}
		approves(t, x, sale(kind, visa, 1, "000001"), 3, 7, someone.token(t, 1, visa))
		for _, s := range wrong {
			// With the key of a post, too.
			declines(t, x, sale(kind, s, 1, "000001"), 3, "14")
		}
	}
}

func TestCardNumbersOfAllLengths(t *testing.T) {
	from := samples.New(244)
	for n := 16; n <= 19; n++ {
		for range 10 {
			x, s := someone.tenant(t), from.Card(n)
			ok(t, x.PutRoute(s[:1], 99))
			ok(t, x.SetRule(wide))
			m := sale("0100", s, 60, "000001")
			approves(t, x, m, 3, 99, someone.token(t, 1, s))
			changesNothing(t, x, m, 3, reply(m, "00", "99", someone.token(t, 1, s)))
			uses(t, x, api.Use{Card: someone.card(t, s), Times: 1, Sum: 60})
			reverses(t, x, undo("0400", "000001"), 3, "000001TERM0001")
			uses(t, x, api.Use{Card: someone.card(t, s)})
		}
	}
}

func TestAmounts(t *testing.T) {
	for _, amount := range []int{0, 1, 60, 1 << 32, maxAmount - 1, maxAmount} {
		for _, kind := range []string{"0100", "0120", "0200", "0220"} {
			x := someone.open(t, wide)
			m := sale(kind, visa, amount, "000001")
			approves(t, x, m, 3, 7, someone.token(t, 1, visa))
			changesNothing(t, x, m, 3, reply(m, "00", "7", someone.token(t, 1, visa)))
			declines(t, x, sale(kind, visa, (amount+1)%(maxAmount+1), "000001"), 3, "94")
		}
	}
}

// The key of a transaction is its trace number with its terminal.
func TestKeys(t *testing.T) {
	x := someone.open(t, wide)
	token := someone.token(t, 1, visa)
	for i, terminal := range []string{"TERM0001", "TERM0002", "        ", "00000100", "~~~~~~~~", " 00 x 7 "} {
		for j, n := range []string{"000000", "000001", "999999"} {
			m := with(sale("0100", visa, 1+10*i+j, n), 41, terminal)
			approves(t, x, m, 3, 7, token)
			changesNothing(t, x, m, 4, reply(m, "00", "7", token))
			reversal := with(undo("0400", n), 41, terminal)
			if i%2 == 0 {
				reverses(t, x, reversal, 3, n+terminal)
			}
		}
	}
	declines(t, x, undo("0400", "000002"), 3, "25")
	declines(t, x, with(undo("0400", "000001"), 41, "TERM0003"), 3, "25")
}

// Whatever has happened since, and as whatever type it comes in again.
func TestRepeatedRequests(t *testing.T) {
	for _, kind := range []string{"0100", "0120", "0200", "0220"} {
		x := someone.open(t, api.Rule{Ticks: 10, Times: 1, Sum: 100, Once: 80})
		token := someone.token(t, 1, visa)
		approves(t, x, sale(kind, visa, 60, "000001"), 3, 7, token)
		isRepeated := func() {
			t.Helper()
			for _, again := range []string{"0100", "0120", "0200", "0220"} {
				for _, now := range []int{0, 3, 4, 100, maxTick} {
					m := sale(again, visa, 60, "000001")
					changesNothing(t, x, m, now, reply(m, "00", "7", token))
					declines(t, x, sale(again, visa, 61, "000001"), now, "94")
					declines(t, x, sale(again, visa, 0, "000001"), now, "94")
					for _, other := range numbers(3) {
						declines(t, x, sale(again, other, 60, "000001"), now, "94")
					}
					declines(t, x, sale(again, numbers(1)[0], 59, "000001"), now, "94")
				}
			}
			m := with(with(sale("0100", visa, 60, "000001"), 3, "123456"), 70, "001")
			changesNothing(t, x, m, 3, reply(m, "00", "7", token))
		}
		isRepeated()
		ok(t, x.SetRule(api.Rule{Ticks: 1}))
		isRepeated()
		ok(t, x.PutRoute("41", 8))
		isRepeated()
		ok(t, x.DropRoute("4"))
		ok(t, x.DropRoute("41"))
		isRepeated()
		x.Rotate()
		x.Rotate()
		isRepeated()
		reverses(t, x, undo("0400", "000001"), 3, "000001TERM0001")
		isRepeated()
		ok(t, x.PutRoute("4", 9))
		for i := 2; i <= maxPosts; i++ {
			approves(t, x, sale("0120", visa, 1, trace(i)), 3, 9, someone.token(t, 3, visa))
		}
		isRepeated()
		x.Close()
		ok(t, x.SetRule(wide))
		approves(t, x, sale(kind, numbers(1)[0], 5, "000001"), 3, 9, someone.token(t, 3, numbers(1)[0]))
	}
}

// What was declined doesn't take the key.
func TestDeclinedRequestsMayComeAgain(t *testing.T) {
	x := someone.tenant(t)
	declines(t, x, sale("0100", visa, 60, "000001"), 3, "15")
	ok(t, x.PutRoute("4", 7))
	declines(t, x, sale("0100", visa, 60, "000001"), 3, "61")
	ok(t, x.SetRule(api.Rule{Ticks: 1, Sum: 100, Once: 60}))
	declines(t, x, sale("0100", visa, 60, "000001"), 3, "65")
	declines(t, x, sale("0100", visa, 50, "000001"), 3, "65")
	ok(t, x.SetRule(wide))
	approves(t, x, sale("0100", visa, 50, "000001"), 3, 7, someone.token(t, 1, visa))
}

func TestTargets(t *testing.T) {
	for target := 1; target <= 99; target++ {
		x := someone.tenant(t)
		ok(t, x.SetRule(wide))
		declines(t, x, sale("0100", visa, 1, "000001"), 3, "15")
		ok(t, x.PutRoute("41111112", 1))
		ok(t, x.PutRoute("5", 1))
		declines(t, x, sale("0100", visa, 1, "000001"), 3, "15")
		ok(t, x.PutRoute("4", 100-target))
		ok(t, x.PutRoute("4111", target))
		ok(t, x.PutRoute("41112", 100-target))
		approves(t, x, sale("0100", visa, 1, "000001"), 3, target, someone.token(t, 1, visa))
		ok(t, x.PutRoute("41111111", 3))
		approves(t, x, sale("0220", visa, 1, "000002"), 3, 3, someone.token(t, 1, visa))
	}
}

func TestAFullLedger(t *testing.T) {
	x := someone.open(t, wide)
	token := someone.token(t, 1, visa)
	for i := range maxPosts {
		approves(t, x, sale("0100", visa, 5, trace(i)), 3, 7, token)
	}
	for _, kind := range []string{"0100", "0120", "0200", "0220"} {
		declines(t, x, sale(kind, visa, 0, "999999"), 3, "96")
		declines(t, x, sale(kind, visa, maxAmount, "999999"), 3, "96")
	}
	// A reversed post takes its place as well.
	reverses(t, x, undo("0400", "000003"), 3, "000003TERM0001")
	declines(t, x, sale("0100", visa, 0, "999999"), 3, "96")
	x.Close()
	approves(t, x, sale("0100", visa, 0, "999999"), 3, 7, token)
}

func TestTheGreatestTotal(t *testing.T) {
	for _, kind := range []string{"0100", "0120", "0200", "0220"} {
		x := someone.open(t, wide)
		// Each in a window of its own: of one, the sum would be too great.
		for i := range 5 {
			approves(t, x, sale(kind, visa, maxAmount, trace(i)), 10*i, 7, someone.token(t, 1, visa))
		}
		const rest = maxTotal - 5*maxAmount
		declines(t, x, sale(kind, visa, rest+1, "000005"), 60, "96")
		declines(t, x, sale(kind, visa, maxAmount, "000005"), 60, "96")
		approves(t, x, sale(kind, visa, rest, "000005"), 60, 7, someone.token(t, 1, visa))
		declines(t, x, sale(kind, visa, 1, "000006"), 60, "96")
		approves(t, x, sale(kind, visa, 0, "000006"), 60, 7, someone.token(t, 1, visa))
		reverses(t, x, undo("0420", "000002"), 60, "000002TERM0001")
		approves(t, x, sale(kind, visa, maxAmount, "000007"), 70, 7, someone.token(t, 1, visa))
		declines(t, x, sale(kind, visa, 1, "000008"), 80, "96")
	}
}

func TestLimits(t *testing.T) {
	for _, kind := range []string{"0100", "0200"} {
		x := someone.open(t, api.Rule{Ticks: 10, Times: 2, Sum: 100, Once: 80})
		token, card := someone.token(t, 1, visa), someone.card(t, visa)
		declines(t, x, sale(kind, visa, 81, "000001"), 3, "61")
		uses(t, x)
		approves(t, x, sale(kind, visa, 60, "000001"), 3, 7, token)
		uses(t, x, api.Use{Card: card, Times: 1, Sum: 60})
		declines(t, x, sale(kind, visa, 41, "000002"), 9, "61")
		approves(t, x, sale(kind, visa, 40, "000002"), 9, 7, token)
		declines(t, x, sale(kind, visa, 0, "000003"), 9, "65")
		declines(t, x, sale(kind, visa, 80, "000003"), 9, "65")
		declines(t, x, sale(kind, visa, 81, "000003"), 9, "61")
		approves(t, x, sale(kind, visa, 80, "000003"), 10, 7, token)
		uses(t, x, api.Use{Card: card, Window: 1, Times: 1, Sum: 80})
		other := numbers(1)[0]
		approves(t, x, sale(kind, other, 80, "000004"), 10, 7, someone.token(t, 1, other))
		uses(t, x, api.Use{Card: card, Window: 1, Times: 1, Sum: 80}, api.Use{Card: someone.card(t, other), Window: 1, Times: 1, Sum: 80})
	}
}

// The use of a card is the same in all versions.
func TestLimitsInOtherVersions(t *testing.T) {
	x := someone.open(t, api.Rule{Ticks: 10, Times: 9, Sum: 100, Once: 80})
	card := someone.card(t, visa)
	for version := 1; version <= 5; version++ {
		approves(t, x, sale("0100", visa, 11, trace(version)), 3, 7, someone.token(t, version, visa))
		uses(t, x, api.Use{Card: card, Times: version, Sum: 11 * version})
		x.Rotate()
	}
	declines(t, x, sale("0100", visa, 46, "000006"), 3, "61")
	for version := 1; version <= 5; version++ {
		reverses(t, x, undo("0400", trace(version)), 3, trace(version)+"TERM0001")
		uses(t, x, api.Use{Card: card, Times: 5 - version, Sum: 55 - 11*version})
	}
}

// No limit applies to advices, and none of them is used up.
func TestAdvicesHaveNoLimits(t *testing.T) {
	for _, kind := range []string{"0120", "0220"} {
		x := someone.open(t, api.Rule{Ticks: 10, Times: 2, Sum: 100, Once: 80})
		token := someone.token(t, 1, visa)
		for i := range 10 {
			approves(t, x, sale(kind, visa, 1000*i, trace(i)), 3, 7, token)
		}
		uses(t, x)
		approves(t, x, sale("0100", visa, 80, "000020"), 3, 7, token)
	}
}

// Of more than sixteen cards in one window.
func TestFullLimits(t *testing.T) {
	x := someone.open(t, wide)
	cards := numbers(maxCards + 1)
	var want []api.Use
	for i, s := range cards[:maxCards] {
		approves(t, x, sale("0100", s, 5, trace(i)), 3, 7, someone.token(t, 1, s))
		want = append(want, api.Use{Card: someone.card(t, s), Times: 1, Sum: 5})
	}
	last := cards[maxCards]
	declines(t, x, sale("0100", last, 5, "000020"), 3, "96")
	declines(t, x, sale("0200", last, 0, "000020"), 9, "96")
	uses(t, x, want...)
	approves(t, x, sale("0120", last, 5, "000021"), 9, 7, someone.token(t, 1, last))
	approves(t, x, sale("0100", last, 5, "000020"), 10, 7, someone.token(t, 1, last))
	uses(t, x, append(want[1:], api.Use{Card: someone.card(t, last), Window: 1, Times: 1, Sum: 5})...)
}

// Of all reasons to decline a request, the first one is told: each line mends what the one above it tells.
func TestTheFirstReasonIsTold(t *testing.T) {
	for _, kind := range []string{"0100", "0200"} {
		x := someone.tenant(t)
		ok(t, x.SetRule(api.Rule{Ticks: 10, Times: 0, Sum: 10, Once: 5}))
		for i := range maxPosts {
			ok(t, x.PutRoute("4", 7))
			approves(t, x, sale("0120", visa, 5, trace(i)), 3, 7, someone.token(t, 1, visa))
		}
		ok(t, x.DropRoute("4"))
		m := sale(kind, "4111111111111112", 6, "000001")
		changesNothing(t, x, with(m, 4, "x"), 3, refused("30"))
		declines(t, x, without(m, 4), 3, "30")
		declines(t, x, m, 3, "14")
		m = with(m, 2, visa)
		declines(t, x, m, 3, "94")
		m = with(m, 11, "000050")
		declines(t, x, m, 3, "15")
		ok(t, x.PutRoute("4", 7))
		declines(t, x, m, 3, "96")
		x.Close()
		declines(t, x, m, 3, "61")
		m = with(m, 4, "000000000005")
		declines(t, x, m, 3, "65")
		ok(t, x.SetRule(api.Rule{Ticks: 10, Times: 1, Sum: 4, Once: 5}))
		declines(t, x, m, 3, "61")
		ok(t, x.SetRule(wide))
		approves(t, x, m, 3, 7, someone.token(t, 1, visa))
	}
}

func TestReversals(t *testing.T) {
	for i, kind := range []string{"0400", "0420"} {
		x := someone.open(t, api.Rule{Ticks: 10, Times: 2, Sum: 100, Once: 80})
		token, card := someone.token(t, 1, visa), someone.card(t, visa)
		declines(t, x, undo(kind, "000001"), 3, "25")
		approves(t, x, sale("0100", visa, 60, "000001"), 3, 7, token)
		approves(t, x, sale("0200", visa, 40, "000002"), 5, 7, token)
		declines(t, x, undo(kind, "000003"), 3, "25")
		declines(t, x, sale("0100", visa, 1, "000003"), 9, "65")
		// The tick of the transaction counts, and not that of the reversal.
		reverses(t, x, undo(kind, "000001"), 1000*i, "000001TERM0001")
		uses(t, x, api.Use{Card: card, Times: 1, Sum: 40})
		for range 3 {
			declines(t, x, undo("0400", "000001"), 3, "00")
			declines(t, x, undo("0420", "000001"), 1000, "00")
		}
		approves(t, x, sale("0100", visa, 60, "000003"), 9, 7, token)
		reverses(t, x, undo(kind, "000002"), maxTick, "000002TERM0001")
		reverses(t, x, undo(kind, "000003"), 0, "000003TERM0001")
		uses(t, x, api.Use{Card: card})
		if x.Total() != 0 {
			t.Errorf("Total: %d", x.Total())
		}
		x.Close()
		declines(t, x, undo(kind, "000001"), 3, "25")
	}
}

// Of field 90, the fifth to the tenth digit count alone.
func TestOriginals(t *testing.T) {
	from := samples.New(245)
	for range 50 {
		x := someone.open(t, wide)
		n := from.Digits(6)
		approves(t, x, sale("0100", visa, 60, n), 3, 7, someone.token(t, 1, visa))
		for at := 4; at < 10; at++ {
			b := []byte(from.Digits(4) + n + from.Digits(32))
			b[at] = '0' + (b[at]-'0'+byte(1+from.Below(9)))%10
			declines(t, x, message("0400", api.Field{N: 41, Value: "TERM0001"}, api.Field{N: 90, Value: string(b)}), 3, "25")
		}
		m := message("0400", api.Field{N: 41, Value: "TERM0001"}, api.Field{N: 90, Value: from.Digits(4) + n + from.Digits(32)})
		reverses(t, x, m, 3, n+"TERM0001")
	}
}

// A trace number in the reversal is its own, and what else it has doesn't count.
func TestFieldsOfReversals(t *testing.T) {
	x := someone.open(t, wide)
	approves(t, x, sale("0100", visa, 60, "000001"), 3, 7, someone.token(t, 1, visa))
	m := with(with(with(undo("0400", "000001"), 11, "000009"), 2, numbers(1)[0]), 4, "000000000001")
	reverses(t, x, m, 3, "000001TERM0001")
}

// An Undo that finds nothing to take back changes no use, but the post is reversed.
func TestReversalsWithoutAUse(t *testing.T) {
	x := someone.open(t, wide)
	token, card := someone.token(t, 1, visa), someone.card(t, visa)
	approves(t, x, sale("0100", visa, 60, "000001"), 3, 7, token)
	approves(t, x, sale("0100", visa, 50, "000002"), 13, 7, token)
	later := api.Use{Card: card, Window: 1, Times: 1, Sum: 50}
	reverses(t, x, undo("0400", "000001"), 13, "000001TERM0001")
	uses(t, x, later)
	// An advice was not counted, so its amount may be more than what is.
	approves(t, x, sale("0120", visa, 51, "000003"), 13, 7, token)
	reverses(t, x, undo("0400", "000003"), 13, "000003TERM0001")
	uses(t, x, later)
	// By the rule of now, tick 13 is in another window than the use.
	ok(t, x.SetRule(api.Rule{Ticks: 5, Times: 1, Sum: 100, Once: 100}))
	reverses(t, x, undo("0400", "000002"), 13, "000002TERM0001")
	uses(t, x, later)
	// By another one it is in that of the use again; what the rule permits by now doesn't matter.
	ok(t, x.SetRule(wide))
	approves(t, x, sale("0100", visa, 30, "000004"), 13, 7, token)
	ok(t, x.SetRule(api.Rule{Ticks: 7}))
	reverses(t, x, undo("0400", "000004"), 13, "000004TERM0001")
	uses(t, x, later)
}

// The document's words: every reversal of an approved post is an Undo, of an advice as well.
func TestReversedAdvicesAreUndone(t *testing.T) {
	x := someone.open(t, wide)
	token, card := someone.token(t, 1, visa), someone.card(t, visa)
	approves(t, x, sale("0100", visa, 60, "000001"), 3, 7, token)
	approves(t, x, sale("0220", visa, 20, "000002"), 4, 7, token)
	uses(t, x, api.Use{Card: card, Times: 1, Sum: 60})
	reverses(t, x, undo("0400", "000002"), 4, "000002TERM0001")
	uses(t, x, api.Use{Card: card, Sum: 40})
}

func TestNetworkManagement(t *testing.T) {
	x := someone.open(t, wide)
	for n := range 1000 {
		m := message("0800", api.Field{N: 70, Value: fmt.Sprintf("%03d", n)})
		changesNothing(t, x, m, 3, message("0810", api.Field{N: 39, Value: "00"}, m.Fields[0]))
	}
	changesNothing(t, x, message("0800"), 3, message("0810", api.Field{N: 39, Value: "30"}))
	declines(t, x, without(everything("0800"), 70), 3, "30")
}

// Nil is no fields, too.
func TestNilFields(t *testing.T) {
	x := someone.open(t, wide)
	before := x.State()
	for _, kind := range []string{"0100", "0400", "0800", "0300", "x"} {
		a, b := x.Handle(api.Message{Type: kind}, 3), x.Handle(api.Message{Type: kind, Fields: []api.Field{}}, 3)
		if !same(a, b) || !bytes.Equal(x.State(), before) {
			t.Errorf("%s: %v and %v", kind, a, b)
		}
	}
}
