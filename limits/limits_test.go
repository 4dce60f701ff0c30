package limits

import (
	"fmt"
	"slices"
	"strings"
	"testing"
	"unsafe"

	"moneyer/api"
	"moneyer/samples"
)

// The document's numbers, written down a second time.
const (
	maxAmount = 999999999999
	maxTick   = 1 << 40
	maxUsed   = 1 << 50
)

// usual is the rule of the document's examples.
var usual = api.Rule{Ticks: 10, Times: 2, Sum: 100, Once: 80}

// wide permits whatever a rule can permit, in windows of ten ticks.
var wide = api.Rule{Ticks: 10, Times: maxAmount, Sum: maxAmount, Once: maxAmount}

// book returns one with some uses, which Restore has to take.
func book(t *testing.T, uses ...api.Use) *Book {
	t.Helper()
	b, err := Restore(uses)
	if b == nil || err != api.OK {
		t.Fatalf("Restore(%v): %v, %d", uses, b, err)
	}
	return b
}

// sixteen are the uses of as many cards, "a" to "p", for one window.
func sixteen(window int) []api.Use {
	var uses []api.Use
	for i := range 16 {
		uses = append(uses, api.Use{Card: string(rune('a' + i)), Window: window, Times: 1 + i, Sum: 10 * i})
	}
	return uses
}

// tries asks Try for OK, and then for the uses.
func tries(t *testing.T, b *Book, r api.Rule, card string, amount, now int, want ...api.Use) {
	t.Helper()
	if err := b.Try(r, card, amount, now); err != api.OK {
		t.Fatalf("Try(%v, %q, %d, %d): %d", r, card, amount, now, err)
	}
	lists(t, b, want)
}

// notTried asks Try for an error, after which the book is the same.
func notTried(t *testing.T, b *Book, r api.Rule, card string, amount, now int, want api.Errno) {
	t.Helper()
	before := b.List()
	if err := b.Try(r, card, amount, now); err != want {
		t.Fatalf("Try(%v, %.60q, %d, %d): %d; want %d", r, card, amount, now, err, want)
	}
	lists(t, b, before)
}

// undoes asks Undo for OK, and then for the uses.
func undoes(t *testing.T, b *Book, r api.Rule, card string, amount, then int, want ...api.Use) {
	t.Helper()
	if err := b.Undo(r, card, amount, then); err != api.OK {
		t.Fatalf("Undo(%v, %q, %d, %d): %d", r, card, amount, then, err)
	}
	lists(t, b, want)
}

// notUndone asks Undo for an error, after which the book is the same.
func notUndone(t *testing.T, b *Book, r api.Rule, card string, amount, then int, want api.Errno) {
	t.Helper()
	before := b.List()
	if err := b.Undo(r, card, amount, then); err != want {
		t.Fatalf("Undo(%v, %.60q, %d, %d): %d; want %d", r, card, amount, then, err, want)
	}
	lists(t, b, before)
}

// lists asks List for some uses, in their order.
func lists(t *testing.T, b *Book, want []api.Use) {
	t.Helper()
	if got := b.List(); !slices.Equal(got, want) {
		t.Fatalf("List: %v; want %v", got, want)
	}
}

// outside returns numbers that are less than least, or greater than most.
func outside(least, most int) []int {
	wrong := []int{api.MinInt, api.MinInt + 1, -1 << 40, -1 << 32, -maxAmount, 1 << 60, 1<<62 + 5, api.MaxInt - 1, api.MaxInt}
	for n := 1; n <= 20; n++ {
		wrong = append(wrong, least-n, most+n)
	}
	return wrong
}

// wrongRules are those that are not valid.
func wrongRules() []api.Rule {
	wrong := []api.Rule{{}, {Times: 1, Sum: 1, Once: 1}, {Ticks: -10, Times: -2, Sum: -100, Once: -80}, {Ticks: maxTick + 1, Times: maxAmount + 1, Sum: maxAmount + 1, Once: maxAmount + 1}}
	for _, r := range []api.Rule{usual, wide, {Ticks: 1}, {Ticks: maxTick, Times: maxAmount, Sum: maxAmount, Once: maxAmount}} {
		for _, n := range outside(1, maxTick) {
			wrong = append(wrong, api.Rule{Ticks: n, Times: r.Times, Sum: r.Sum, Once: r.Once})
		}
		for _, n := range outside(0, maxAmount) {
			wrong = append(wrong,
				api.Rule{Ticks: r.Ticks, Times: n, Sum: r.Sum, Once: r.Once},
				api.Rule{Ticks: r.Ticks, Times: r.Times, Sum: n, Once: r.Once},
				api.Rule{Ticks: r.Ticks, Times: r.Times, Sum: r.Sum, Once: n})
		}
	}
	return wrong
}

// wrongCards are those that no use has.
func wrongCards() []string {
	wrong := []string{"", strings.Repeat("é", 17), strings.Repeat("a", 1<<20), strings.Repeat("\x00", 256), strings.Repeat("a", 256+1), strings.Repeat("a", 1<<16+1)}
	for n := 33; n < 100; n++ {
		wrong = append(wrong, strings.Repeat("a", n))
	}
	return wrong
}

// P16.1: Right, New and the order of the uses.

func TestRight(t *testing.T) {
	for _, ticks := range []int{1, 2, 10, maxTick - 1, maxTick} {
		for _, times := range []int{0, 1, 2, maxAmount - 1, maxAmount} {
			for _, sum := range []int{0, 1, 100, maxAmount - 1, maxAmount} {
				for _, once := range []int{0, 1, 80, maxAmount - 1, maxAmount} {
					if r := (api.Rule{Ticks: ticks, Times: times, Sum: sum, Once: once}); !Right(r) {
						t.Errorf("Right(%v): false", r)
					}
				}
			}
		}
	}
}

func TestRightOfWrongRules(t *testing.T) {
	for _, r := range wrongRules() {
		if Right(r) {
			t.Errorf("Right(%v): true", r)
		}
	}
}

func TestNew(t *testing.T) {
	b := New()
	lists(t, b, nil)
	for _, card := range []string{"a", "\x00", strings.Repeat("a", 32)} {
		notUndone(t, b, wide, card, 0, 0, api.ErrNone)
	}
}

func TestBooksHaveTheirOwnUses(t *testing.T) {
	b, other := New(), New()
	tries(t, b, usual, "a", 60, 3, api.Use{Card: "a", Times: 1, Sum: 60})
	lists(t, other, nil)
	tries(t, other, usual, "a", 50, 14, api.Use{Card: "a", Window: 1, Times: 1, Sum: 50})
	lists(t, b, []api.Use{{Card: "a", Times: 1, Sum: 60}})
	undoes(t, b, usual, "a", 60, 3, api.Use{Card: "a"})
	lists(t, other, []api.Use{{Card: "a", Window: 1, Times: 1, Sum: 50}})
}

// A use keeps its place, whatever is done with its card afterwards, in other windows as well.
func TestUsesAreInTheOrderInWhichTheyWereAdded(t *testing.T) {
	b := New()
	var want []api.Use
	for _, card := range []string{"m", "b", "z", "a", "aa", "B", "\xff", "\x00", "0"} {
		want = append(want, api.Use{Card: card, Times: 1, Sum: 4})
		tries(t, b, wide, card, 4, 5, want...)
	}
	for _, now := range []int{12, 100, 3, maxTick} {
		for i := len(want) - 1; i >= 0; i-- {
			card := want[i].Card
			want[i] = api.Use{Card: card, Window: now / 10, Times: 1, Sum: 5}
			tries(t, b, wide, card, 5, now, want...)
			want[i].Times, want[i].Sum = 0, 2
			undoes(t, b, wide, card, 3, now, want...)
		}
	}
}

// P16.2: Try.

func TestExamples(t *testing.T) {
	b := New()
	tries(t, b, usual, "a", 60, 3, api.Use{Card: "a", Times: 1, Sum: 60})
	notTried(t, b, usual, "a", 50, 4, api.ErrOver)
	tries(t, b, usual, "a", 40, 5, api.Use{Card: "a", Times: 2, Sum: 100})
	notTried(t, b, usual, "a", 1, 9, api.ErrCount)
	tries(t, b, usual, "a", 1, 10, api.Use{Card: "a", Window: 1, Times: 1, Sum: 1})
	notTried(t, b, usual, "b", 81, 3, api.ErrOver)
	notUndone(t, b, usual, "a", 1, 3, api.ErrNone)
	undoes(t, b, usual, "a", 1, 10, api.Use{Card: "a", Window: 1})
}

// Each wrong argument among such as a book would take, and such as it would refuse for another reason.
func TestTryRefusesWrongArguments(t *testing.T) {
	for _, uses := range [][]api.Use{nil, {{Card: "a", Times: 1, Sum: 60}}, sixteen(0)} {
		b := book(t, uses...)
		for _, r := range wrongRules() {
			notTried(t, b, r, "a", 1, 3, api.ErrArg)
			notTried(t, b, r, "z", 99, 3, api.ErrArg)
		}
		for _, card := range wrongCards() {
			notTried(t, b, wide, card, 1, 3, api.ErrArg)
			notTried(t, b, usual, card, 99, 30, api.ErrArg)
		}
		for _, n := range outside(0, maxAmount) {
			notTried(t, b, wide, "a", n, 3, api.ErrArg)
			notTried(t, b, usual, "z", n, 3, api.ErrArg)
		}
		for _, n := range outside(0, maxTick) {
			notTried(t, b, wide, "a", 1, n, api.ErrArg)
			notTried(t, b, usual, "z", 99, n, api.ErrArg)
		}
	}
}

func TestTryTakesArgumentsAtTheEdges(t *testing.T) {
	for _, card := range []string{"a", "\x00", "\xff", " ", strings.Repeat("a", 31), strings.Repeat("a", 32), strings.Repeat("\x00", 32), strings.Repeat("é", 16)} {
		for _, amount := range []int{0, 1, maxAmount - 1, maxAmount} {
			for _, now := range []int{0, 1, maxTick - 1, maxTick} {
				for _, ticks := range []int{1, 10, maxTick - 1, maxTick} {
					r := api.Rule{Ticks: ticks, Times: 1, Sum: amount, Once: amount}
					use := api.Use{Card: card, Window: now / ticks, Times: 1, Sum: amount}
					tries(t, New(), r, card, amount, now, use)
				}
			}
		}
	}
}

// Cards are the same if they have the same bytes.
func TestCardsOfSimilarBytes(t *testing.T) {
	b := New()
	var want []api.Use
	for i, card := range []string{"a", "A", "aa", "a\x00", "\x00a", " a", "a ", "é", "e\u0301", "0", "00", strings.Repeat("a", 31), strings.Repeat("a", 32), strings.Repeat("a", 31) + "b"} {
		want = append(want, api.Use{Card: card, Times: 1, Sum: i})
		tries(t, b, wide, card, i, 3, want...)
	}
}

// Each limit is reached, and then exceeded by one.
func TestLimits(t *testing.T) {
	for _, c := range []struct {
		rule         api.Rule
		times, sum   int
		amount, want int
	}{
		{api.Rule{Ticks: 10, Times: 5, Sum: 100, Once: 80}, 0, 0, 80, 0},
		{api.Rule{Ticks: 10, Times: 5, Sum: 100, Once: 80}, 0, 0, 81, 17},
		{api.Rule{Ticks: 10, Times: 5, Sum: 100, Once: 80}, 4, 20, 80, 0},
		{api.Rule{Ticks: 10, Times: 5, Sum: 100, Once: 80}, 4, 21, 80, 17},
		{api.Rule{Ticks: 10, Times: 5, Sum: 100, Once: 80}, 4, 100, 0, 0},
		{api.Rule{Ticks: 10, Times: 5, Sum: 100, Once: 80}, 4, 100, 1, 17},
		{api.Rule{Ticks: 10, Times: 5, Sum: 100, Once: 80}, 4, 101, 0, 17},
		{api.Rule{Ticks: 10, Times: 5, Sum: 100, Once: 80}, 5, 0, 0, 18},
		{api.Rule{Ticks: 10, Times: 5, Sum: 100, Once: 80}, 6, 0, 80, 18},
		{api.Rule{Ticks: 10}, 0, 0, 0, 18},
		{api.Rule{Ticks: 10}, 0, 0, 1, 17},
		{api.Rule{Ticks: 10, Times: 1}, 0, 0, 0, 0},
		{api.Rule{Ticks: 10, Times: 1}, 0, 0, 1, 17},
		{api.Rule{Ticks: 10, Times: 1, Once: 1}, 0, 0, 1, 17},
		{api.Rule{Ticks: 10, Times: 1, Sum: 1}, 0, 0, 1, 17},
		{api.Rule{Ticks: 10, Times: 1, Sum: 1, Once: 1}, 0, 0, 1, 0},
		{wide, maxAmount - 1, 0, maxAmount, 0},
		{wide, maxAmount, 0, 0, 18},
		{wide, 0, maxAmount, 0, 0},
		{wide, 0, maxAmount, 1, 17},
		{wide, 0, 1, maxAmount, 17},
		{wide, 0, maxUsed, 0, 17},
		{wide, 0, maxUsed, maxAmount, 17},
		{wide, maxUsed, maxUsed, maxAmount, 18},
	} {
		for _, now := range []int{30, 35, 39} {
			b := book(t, api.Use{Card: "a", Window: 3, Times: c.times, Sum: c.sum})
			if c.want > 0 {
				notTried(t, b, c.rule, "a", c.amount, now, api.Errno(c.want))
			} else {
				tries(t, b, c.rule, "a", c.amount, now, api.Use{Card: "a", Window: 3, Times: c.times + 1, Sum: c.sum + c.amount})
			}
		}
	}
}

// Of all limits that are exceeded, the first one is told; a book that is full comes last.
func TestTheFirstErrorIsTold(t *testing.T) {
	used := api.Use{Card: "a", Window: 3, Times: 2, Sum: 90}
	notTried(t, book(t, used), usual, "a", 81, 35, api.ErrOver)
	notTried(t, book(t, used), usual, "a", 80, 35, api.ErrCount)
	notTried(t, book(t, used), usual, "a", 11, 35, api.ErrCount)
	full := book(t, sixteen(3)...)
	notTried(t, full, usual, "z", 81, 35, api.ErrOver)
	notTried(t, full, api.Rule{Ticks: 10, Sum: 100, Once: 80}, "z", 80, 35, api.ErrCount)
	notTried(t, full, api.Rule{Ticks: 10, Times: 2, Sum: 79, Once: 80}, "z", 80, 35, api.ErrOver)
	notTried(t, full, usual, "z", 80, 35, api.ErrFull)
}

// A window begins with a multiple of Ticks, and ends ahead of the next one.
func TestWindows(t *testing.T) {
	for _, ticks := range []int{1, 2, 3, 7, 10, 1000, 1 << 20, maxTick/2 + 1, maxTick - 1, maxTick} {
		r := api.Rule{Ticks: ticks, Times: maxAmount, Sum: maxAmount, Once: maxAmount}
		for _, window := range []int{0, 1, 2, 9, maxTick / ticks} {
			first, last := window*ticks, min(window*ticks+ticks-1, maxTick)
			if first > maxTick {
				continue
			}
			b := New()
			tries(t, b, r, "a", 3, last, api.Use{Card: "a", Window: window, Times: 1, Sum: 3})
			tries(t, b, r, "a", 4, first, api.Use{Card: "a", Window: window, Times: 2, Sum: 7})
			if first > 0 {
				tries(t, b, r, "a", 5, first-1, api.Use{Card: "a", Window: window - 1, Times: 1, Sum: 5})
				tries(t, b, r, "a", 6, first, api.Use{Card: "a", Window: window, Times: 1, Sum: 6})
			}
			if last < maxTick {
				tries(t, b, r, "a", 7, last+1, api.Use{Card: "a", Window: window + 1, Times: 1, Sum: 7})
			}
		}
	}
}

// What a card used in another window, an earlier or a later one, doesn't count; where it is refused all the same, it is kept.
func TestUsesForOtherWindows(t *testing.T) {
	for _, window := range []int{0, 2, 4, 5, 1 << 40, api.MaxInt} {
		used := api.Use{Card: "a", Window: window, Times: maxUsed, Sum: maxUsed}
		b := book(t, api.Use{Card: "b"}, used, api.Use{Card: "c"})
		notTried(t, b, usual, "a", 81, 35, api.ErrOver)
		notTried(t, b, api.Rule{Ticks: 10, Sum: 100, Once: 80}, "a", 80, 35, api.ErrCount)
		notTried(t, b, api.Rule{Ticks: 10, Times: 2, Sum: 79, Once: 80}, "a", 80, 35, api.ErrOver)
		tries(t, b, usual, "a", 80, 35, api.Use{Card: "b"}, api.Use{Card: "a", Window: 3, Times: 1, Sum: 80}, api.Use{Card: "c"})
	}
}

// The window's number alone is kept: under another rule it is that of other ticks.
func TestAnotherRule(t *testing.T) {
	b := New()
	tries(t, b, usual, "a", 60, 35, api.Use{Card: "a", Window: 3, Times: 1, Sum: 60})
	tries(t, b, api.Rule{Ticks: 100, Times: 2, Sum: 100, Once: 80}, "a", 40, 399, api.Use{Card: "a", Window: 3, Times: 2, Sum: 100})
	tries(t, b, api.Rule{Ticks: 1, Times: 3, Sum: 101, Once: 80}, "a", 1, 3, api.Use{Card: "a", Window: 3, Times: 3, Sum: 101})
	notTried(t, b, usual, "a", 0, 35, api.ErrCount)
	undoes(t, b, api.Rule{Ticks: 30}, "a", 41, 90, api.Use{Card: "a", Window: 3, Times: 2, Sum: 60})
	tries(t, b, api.Rule{Ticks: 11, Times: 1, Sum: 1, Once: 1}, "a", 1, 32, api.Use{Card: "a", Window: 2, Times: 1, Sum: 1})
}

func TestFullBook(t *testing.T) {
	b := New()
	var want []api.Use
	for i := range 16 {
		card := fmt.Sprint("card ", i)
		want = append(want, api.Use{Card: card, Window: 3, Times: 1, Sum: i})
		tries(t, b, wide, card, i, 30+i%10, want...)
	}
	for now := 30; now < 40; now++ {
		notTried(t, b, wide, "z", 0, now, api.ErrFull)
	}
	for i := range want {
		// The cards that it has may go on.
		want[i].Times, want[i].Sum = 2, want[i].Sum+5
		tries(t, b, wide, want[i].Card, 5, 39, want...)
	}
	// A use of nothing takes its place as well.
	want[4].Times, want[4].Sum = 1, 4
	undoes(t, b, wide, "card 4", 5, 31, want...)
	want[4].Times, want[4].Sum = 0, 0
	undoes(t, b, wide, "card 4", 4, 31, want...)
	notTried(t, b, wide, "z", 0, 30, api.ErrFull)
}

// In a full book the first use for another window, an earlier or a later one, makes room, and one alone.
func TestRoomForANewCard(t *testing.T) {
	for _, window := range []int{0, 2, 4, 100, api.MaxInt} {
		for first := range 16 {
			for _, second := range []int{first, 15} {
				uses := sixteen(3)
				uses[first].Window, uses[second].Window = window, window
				b := book(t, uses...)
				notTried(t, b, usual, "z", 81, 35, api.ErrOver)
				want := append(slices.Delete(slices.Clone(uses), first, first+1), api.Use{Card: "z", Window: 3, Times: 1, Sum: 80})
				tries(t, b, usual, "z", 80, 35, want...)
				if second == first {
					notTried(t, b, usual, "y", 80, 35, api.ErrFull)
					continue
				}
				want = append(slices.Delete(want, 14, 15), api.Use{Card: "y", Window: 3, Times: 1, Sum: 70})
				tries(t, b, usual, "y", 70, 35, want...)
				notTried(t, b, usual, "x", 70, 35, api.ErrFull)
			}
		}
	}
}

// As long as there is room, no use is removed, however old.
func TestNoUseIsRemovedWithoutNeed(t *testing.T) {
	for n := range 16 {
		uses := sixteen(1)[:n]
		b := book(t, uses...)
		tries(t, b, usual, "z", 80, 35, append(uses, api.Use{Card: "z", Window: 3, Times: 1, Sum: 80})...)
	}
}

// A card that has a use already needs no room: its own use for another window stays where it is, and others stay too.
func TestACardOfAFullBook(t *testing.T) {
	for i := range 16 {
		uses := sixteen(1)
		b := book(t, uses...)
		uses[i] = api.Use{Card: uses[i].Card, Window: 3, Times: 1, Sum: 80}
		tries(t, b, usual, uses[i].Card, 80, 35, uses...)
		uses = sixteen(3)
		uses[i].Window = 1
		b = book(t, uses...)
		uses[i] = api.Use{Card: uses[i].Card, Window: 3, Times: 1, Sum: 7}
		tries(t, b, usual, uses[i].Card, 7, 35, uses...)
	}
}

// All sixteen are replaced one by one, in their order.
func TestAllUsesAreReplaced(t *testing.T) {
	want := sixteen(3)
	b := book(t, want...)
	for i := range 16 {
		card := fmt.Sprint("new ", i)
		want = append(want[1:], api.Use{Card: card, Window: 4, Times: 1, Sum: i})
		tries(t, b, wide, card, i, 40+i%10, want...)
	}
	notTried(t, b, wide, "a", 0, 49, api.ErrFull)
	want = append(want[1:], api.Use{Card: "a", Window: 3, Times: 1, Sum: 2})
	tries(t, b, wide, "a", 2, 39, want...)
}

// P16.3: Undo.

func TestUndoRefusesWrongArguments(t *testing.T) {
	for _, uses := range [][]api.Use{nil, {{Card: "a", Times: 1, Sum: 60}}, sixteen(0)} {
		b := book(t, uses...)
		for _, r := range wrongRules() {
			notUndone(t, b, r, "a", 0, 3, api.ErrArg)
			notUndone(t, b, r, "z", 1, 3, api.ErrArg)
		}
		for _, card := range wrongCards() {
			notUndone(t, b, usual, card, 0, 3, api.ErrArg)
			notUndone(t, b, wide, card, 1, 30, api.ErrArg)
		}
		for _, n := range outside(0, maxAmount) {
			notUndone(t, b, usual, "a", n, 3, api.ErrArg)
			notUndone(t, b, wide, "z", n, 3, api.ErrArg)
		}
		for _, n := range outside(0, maxTick) {
			notUndone(t, b, usual, "a", 0, n, api.ErrArg)
			notUndone(t, b, wide, "z", 1, n, api.ErrArg)
		}
	}
}

func TestUndoTakesArgumentsAtTheEdges(t *testing.T) {
	for _, card := range []string{"a", "\x00", strings.Repeat("a", 32)} {
		for _, amount := range []int{0, 1, maxAmount - 1, maxAmount} {
			for _, then := range []int{0, 1, maxTick - 1, maxTick} {
				for _, ticks := range []int{1, 10, maxTick - 1, maxTick} {
					b := book(t, api.Use{Card: card, Window: then / ticks, Times: 1, Sum: amount})
					// The rule's other limits make no difference.
					undoes(t, b, api.Rule{Ticks: ticks}, card, amount, then, api.Use{Card: card, Window: then / ticks})
				}
			}
		}
	}
}

func TestUndoLowersTheUse(t *testing.T) {
	for _, c := range []struct{ times, sum, amount int }{
		{1, 0, 0}, {1, 60, 60}, {1, 60, 59}, {1, 60, 0}, {2, 60, 60}, {5, 100, 1}, {maxUsed, maxUsed, maxAmount}, {maxUsed, maxUsed, 0}, {1, maxUsed, 1}, {maxUsed, 0, 0},
	} {
		b := book(t, api.Use{Card: "b", Window: 3, Times: 7, Sum: 70}, api.Use{Card: "a", Window: 3, Times: c.times, Sum: c.sum}, api.Use{Card: "c", Window: 2, Times: 7, Sum: 70})
		undoes(t, b, usual, "a", c.amount, 35,
			api.Use{Card: "b", Window: 3, Times: 7, Sum: 70}, api.Use{Card: "a", Window: 3, Times: c.times - 1, Sum: c.sum - c.amount}, api.Use{Card: "c", Window: 2, Times: 7, Sum: 70})
	}
}

func TestUndoOfNothing(t *testing.T) {
	b := book(t, api.Use{Card: "a", Window: 3, Times: 1, Sum: 60}, api.Use{Card: "none", Window: 3, Sum: 60}, api.Use{Card: "free", Window: 3, Times: 1})
	notUndone(t, b, usual, "b", 0, 35, api.ErrNone)
	notUndone(t, b, usual, "aa", 60, 35, api.ErrNone)
	notUndone(t, b, usual, "A", 60, 35, api.ErrNone)
	for _, then := range []int{0, 3, 29, 40, 300, maxTick} {
		notUndone(t, b, usual, "a", 60, then, api.ErrNone)
		notUndone(t, b, usual, "a", 0, then, api.ErrNone)
	}
	for _, amount := range []int{61, 62, 80, 100, maxAmount} {
		notUndone(t, b, usual, "a", amount, 35, api.ErrNone)
	}
	for _, amount := range []int{0, 1, 60, 61} {
		notUndone(t, b, usual, "none", amount, 35, api.ErrNone)
	}
	for _, amount := range []int{1, 2, maxAmount} {
		notUndone(t, b, usual, "free", amount, 35, api.ErrNone)
	}
	undoes(t, b, usual, "free", 0, 39, api.Use{Card: "a", Window: 3, Times: 1, Sum: 60}, api.Use{Card: "none", Window: 3, Sum: 60}, api.Use{Card: "free", Window: 3})
	notUndone(t, b, usual, "free", 0, 39, api.ErrNone)
}

// The part of a total that an Undo leaves goes on counting, though no transaction does.
func TestATotalWithoutTransactions(t *testing.T) {
	b := New()
	tries(t, b, usual, "a", 60, 35, api.Use{Card: "a", Window: 3, Times: 1, Sum: 60})
	undoes(t, b, usual, "a", 10, 35, api.Use{Card: "a", Window: 3, Sum: 50})
	notTried(t, b, usual, "a", 51, 35, api.ErrOver)
	tries(t, b, usual, "a", 50, 35, api.Use{Card: "a", Window: 3, Times: 1, Sum: 100})
}

// P16.4: List and Restore.

func TestRestore(t *testing.T) {
	for _, uses := range [][]api.Use{
		nil, {}, sixteen(0)[:1], sixteen(3)[:15], sixteen(3),
		{{Card: "a"}},
		{{Card: "b"}, {Card: "a"}, {Card: "c"}, {Card: "A"}, {Card: "aa"}, {Card: "a\x00"}},
		{{Card: "a", Window: api.MaxInt, Times: maxUsed, Sum: maxUsed}, {Card: strings.Repeat("a", 32), Window: api.MaxInt - 1, Times: maxUsed - 1, Sum: maxUsed - 1}},
		{{Card: strings.Repeat("\xff", 32), Window: maxTick + 1, Times: maxAmount + 1, Sum: maxAmount + 1}},
		{{Card: "\x00", Sum: 5}, {Card: " ", Times: 5}, {Card: "é", Window: 5}},
	} {
		lists(t, book(t, uses...), uses)
	}
}

func TestRestoreRefusesWrongUses(t *testing.T) {
	wrong := []api.Use{{}, {Times: 1}, {Card: "a", Window: -1, Times: -1, Sum: -1}}
	for _, card := range wrongCards() {
		wrong = append(wrong, api.Use{Card: card, Window: 3, Times: 1, Sum: 1})
	}
	for _, n := range outside(0, api.MaxInt) {
		if n < 0 {
			wrong = append(wrong, api.Use{Card: "z", Window: n, Times: 1, Sum: 1})
		}
	}
	for _, n := range outside(0, maxUsed) {
		wrong = append(wrong, api.Use{Card: "z", Window: 3, Times: n, Sum: 1}, api.Use{Card: "z", Window: 3, Times: 1, Sum: n})
	}
	for _, use := range wrong {
		notRestored(t, []api.Use{use})
		for at := range 16 {
			uses := sixteen(3)
			uses[at] = use
			notRestored(t, uses)
		}
	}
}

func TestRestoreRefusesTheSameCardTwice(t *testing.T) {
	notRestored(t, []api.Use{{Card: "a"}, {Card: "a"}})
	for first := range 16 {
		for second := range first {
			uses := sixteen(3)
			uses[second].Card, uses[second].Window = strings.Clone(uses[first].Card), 5
			notRestored(t, uses)
		}
	}
}

func TestRestoreRefusesTooMany(t *testing.T) {
	for _, n := range []int{17, 18, 32, 100, 256 + 1, 1 << 16} {
		var uses []api.Use
		for i := range n {
			uses = append(uses, api.Use{Card: fmt.Sprint(i), Window: i})
		}
		notRestored(t, uses)
	}
}

// notRestored asks Restore for ErrArg, and no book.
func notRestored(t *testing.T, uses []api.Use) {
	t.Helper()
	if b, err := Restore(uses); b != nil || err != api.ErrArg {
		t.Fatalf("Restore(%.400v): %v, %d", uses, b, err)
	}
}

// P16.5: arguments and results. (After each error the tests above ask for the same uses.)

// lent returns a string in memory that can be overwritten.
func lent(s string) (string, []byte) {
	b := []byte(s)
	return unsafe.String(&b[0], len(b)), b
}

// Cards that are new to a book, that it has, that take another's place, and that are refused.
func TestCardsAreNeitherModifiedNorRetained(t *testing.T) {
	const name = "4111110039431111"
	for _, uses := range [][]api.Use{nil, {{Card: name, Window: 3}}, {{Card: name, Window: 9}}, sixteen(1), sixteen(3)} {
		b := book(t, uses...)
		for _, amount := range []int{81, 5, 6} {
			card, memory := lent(name)
			before := b.List()
			err := b.Try(usual, card, amount, 35)
			if card != name {
				t.Fatalf("Try made %q of %q", card, name)
			}
			after := b.List()
			samples.Spoil(memory)
			lists(t, b, after)
			if err != api.OK {
				lists(t, b, before)
			}
		}
		card, memory := lent(name)
		b.Undo(usual, card, 6, 35)
		if card != name {
			t.Fatalf("Undo made %q of %q", card, name)
		}
		after := b.List()
		samples.Spoil(memory)
		lists(t, b, after)
	}
}

func TestRestoreNeitherModifiesNorRetains(t *testing.T) {
	var memories [][]byte
	whole := make([]api.Use, 40)
	for i := range whole {
		card, memory := lent(fmt.Sprint("card ", i))
		whole[i] = api.Use{Card: card, Window: i, Times: i, Sum: i}
		memories = append(memories, memory)
	}
	before := slices.Clone(whole)
	b := book(t, whole[10:20]...)
	notRestored(t, append(whole[:10:10], whole[0]))
	notRestored(t, whole[10:27])
	if !slices.Equal(whole, before) {
		t.Fatalf("Restore made %v", whole)
	}
	want := b.List()
	for i := range whole {
		whole[i] = api.Use{Card: "x", Window: 99, Times: 99, Sum: 99}
		samples.Spoil(memories[i])
	}
	lists(t, b, want)
	for i, use := range want {
		if use != (api.Use{Card: fmt.Sprint("card ", 10+i), Window: 10 + i, Times: 10 + i, Sum: 10 + i}) {
			t.Errorf("use %d became %v", i, use)
		}
	}
}

// The spare capacity of a list is not that of its book.
func TestBooksDoNotChangeRestoredLists(t *testing.T) {
	whole := sixteen(3)
	b := book(t, whole[:5]...)
	for now := range 100 {
		b.Try(wide, "a", 1, now)
		b.Try(wide, fmt.Sprint(now), 1, now)
		b.Undo(wide, "a", 1, now)
	}
	if !slices.Equal(whole, sixteen(3)) {
		t.Errorf("the list became %v", whole)
	}
}

func TestListIsNewMemory(t *testing.T) {
	for _, b := range []*Book{book(t, sixteen(3)...), book(t, sixteen(3)[:5]...), New()} {
		if len(b.List()) == 0 {
			b.Try(wide, "a", 1, 1)
			b.Try(wide, "b", 1, 1)
			b.Try(wide, "c", 1, 1)
		}
		first, second := b.List(), b.List()
		for i := range first {
			mine, other, own := unsafe.StringData(first[i].Card), unsafe.StringData(second[i].Card), unsafe.StringData(b.uses[i].Card)
			if mine == other || mine == own {
				t.Errorf("the memory of %q is shared", first[i].Card)
			}
		}
		want := slices.Clone(second)
		first = first[:cap(first)]
		for i := range first {
			first[i] = api.Use{Card: "x", Window: 99, Times: 99, Sum: 99}
		}
		if !slices.Equal(second, want) {
			t.Errorf("two results share memory: %v", second)
		}
		lists(t, b, want)
	}
}

// A list tells the uses at its time.
func TestListsStayAsTheyAre(t *testing.T) {
	b := book(t, sixteen(3)...)
	list := b.List()
	for now := range 100 {
		b.Try(wide, "a", 1, now)
		b.Try(wide, fmt.Sprint(now), 1, now)
		b.Undo(wide, "a", 1, now)
	}
	if !slices.Equal(list, sixteen(3)) {
		t.Errorf("the list became %v", list)
	}
}

// P16.6 and P16.7: theorems.

// slowTry follows the document's words.
func slowTry(uses []api.Use, r api.Rule, card string, amount, now int) ([]api.Use, api.Errno) {
	at := slices.IndexFunc(uses, func(u api.Use) bool { return u.Card == card })
	window, times, sum := now/r.Ticks, 0, 0
	if at >= 0 && uses[at].Window == window {
		times, sum = uses[at].Times, uses[at].Sum
	}
	stale := slices.IndexFunc(uses, func(u api.Use) bool { return u.Window != window })
	switch {
	case amount > r.Once:
		return uses, api.ErrOver
	case times >= r.Times:
		return uses, api.ErrCount
	case sum+amount > r.Sum:
		return uses, api.ErrOver
	case at < 0 && len(uses) == 16 && stale < 0:
		return uses, api.ErrFull
	}
	uses = slices.Clone(uses)
	next := api.Use{Card: card, Window: window, Times: times + 1, Sum: sum + amount}
	if at >= 0 {
		uses[at] = next
		return uses, api.OK
	}
	if len(uses) == 16 {
		uses = append(uses[:stale], uses[stale+1:]...)
	}
	return append(uses, next), api.OK
}

// slowUndo follows the document's words.
func slowUndo(uses []api.Use, r api.Rule, card string, amount, then int) ([]api.Use, api.Errno) {
	uses = slices.Clone(uses)
	for i, u := range uses {
		if u.Card == card && u.Window == then/r.Ticks && u.Times > 0 && u.Sum >= amount {
			uses[i].Times--
			uses[i].Sum -= amount
			return uses, api.OK
		}
	}
	return uses, api.ErrNone
}

// call is one of Try or Undo, with its arguments.
type call struct {
	undo        bool
	rule        api.Rule
	card        string
	amount, now int
}

// random yields calls with few cards, a few rules and the ticks from early on.
func random(from *samples.Source, early int) call {
	r := usual
	switch from.Below(10) {
	case 0:
		r = wide
	case 1:
		r = api.Rule{Ticks: 1 + from.Below(20), Times: from.Below(6), Sum: from.Below(200), Once: from.Below(100)}
	}
	return call{from.Below(4) == 0, r, fmt.Sprint(from.Below(30)), from.Below(90) >> from.Below(7), early + from.Below(12)}
}

// on makes a call to a book.
func (c call) on(b *Book) api.Errno {
	if c.undo {
		return b.Undo(c.rule, c.card, c.amount, c.now)
	}
	return b.Try(c.rule, c.card, c.amount, c.now)
}

// onList makes a call as the document words it.
func (c call) onList(uses []api.Use) ([]api.Use, api.Errno) {
	if c.undo {
		return slowUndo(uses, c.rule, c.card, c.amount, c.now)
	}
	return slowTry(uses, c.rule, c.card, c.amount, c.now)
}

// Random calls, against a list that is kept as the document words it; after each of them, a restored book answers the next one as well.
func TestRandomCalls(t *testing.T) {
	from := samples.New(233)
	counts := map[api.Errno]int{}
	for range 60 {
		b := New()
		var uses []api.Use
		for i := range 500 {
			c, restored := random(from, i/8), book(t, b.List()...)
			var want api.Errno
			uses, want = c.onList(uses)
			for _, x := range []*Book{b, restored} {
				if err := c.on(x); err != want {
					t.Fatalf("%v: %d; want %d", c, err, want)
				}
				lists(t, x, uses)
			}
			counts[want]++
		}
	}
	for _, err := range []api.Errno{api.OK, api.ErrOver, api.ErrCount, api.ErrFull, api.ErrNone} {
		if counts[err] < 100 {
			t.Errorf("only %d calls answered %d", counts[err], err)
		}
	}
}

// A restored book goes on like the one that was listed, through many calls.
func TestRestoredBooksGoOn(t *testing.T) {
	from := samples.New(234)
	for range 100 {
		b := New()
		for i := range from.Below(300) {
			random(from, i/8).on(b)
		}
		restored := book(t, b.List()...)
		for i := range 300 {
			c := random(from, 30+i/8)
			if first, second := c.on(b), c.on(restored); first != second {
				t.Fatalf("%v: %d; the restored book: %d", c, first, second)
			}
			lists(t, restored, b.List())
		}
	}
}

// Whatever is tried in between: by other cards, with too great amounts, or with wrong arguments.
func TestACardStaysWithinItsRule(t *testing.T) {
	from := samples.New(235)
	for range 300 {
		b := New()
		r := api.Rule{Ticks: 1 + from.Below(20), Times: from.Below(8), Sum: from.Below(300), Once: from.Below(120)}
		times, totals := map[string]int{}, map[string]int{}
		for i := range 300 {
			card, amount, now := fmt.Sprint(from.Below(20)), from.Below(130)-5, i/10
			if b.Try(r, card, amount, now) != api.OK {
				continue
			}
			key := fmt.Sprint(card, " in ", now/r.Ticks)
			times[key]++
			totals[key] += amount
			if amount < 0 || amount > r.Once || times[key] > r.Times || totals[key] > r.Sum {
				t.Fatalf("%v: card %s was accepted %d times, with %d in all", r, key, times[key], totals[key])
			}
		}
	}
}

// All that a rule permits is accepted: the last time, and the last of the sum.
func TestACardMayUseAllOfItsRule(t *testing.T) {
	for times := 1; times <= 40; times++ {
		b, r := New(), api.Rule{Ticks: 7, Times: times, Sum: 3 * times, Once: 3}
		for i := range times {
			notTried(t, b, r, "a", 4, i%7, api.ErrOver)
			tries(t, b, r, "a", 3, i%7, api.Use{Card: "a", Times: i + 1, Sum: 3 * (i + 1)})
		}
		notTried(t, b, r, "a", 0, 6, api.ErrCount)
	}
}

// A Try that is undone leaves the use for its window as it was: none counts like one of nothing.
func TestTryAndUndo(t *testing.T) {
	from := samples.New(236)
	undone := 0
	for range 200 {
		b := New()
		for i := range 100 {
			c := random(from, i/8)
			c.undo = false
			before := b.counted(c.card, c.now/c.rule.Ticks)
			if c.on(b) != api.OK || from.Below(2) == 0 {
				continue
			}
			c.undo = true
			if err := c.on(b); err != api.OK {
				t.Fatalf("%v: %d", c, err)
			}
			if after := b.counted(c.card, c.now/c.rule.Ticks); after != before {
				t.Fatalf("%v: %v became %v", c, before, after)
			}
			undone++
		}
	}
	if undone < 1000 {
		t.Errorf("only %d were undone", undone)
	}
}
