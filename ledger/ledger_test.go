package ledger

import (
	"fmt"
	"slices"
	"strings"
	"testing"
	"unsafe"

	"moneyer/api"
	"moneyer/samples"
)

// The document's numbers, written down a second time.
const (
	maxPosts  = 24
	maxKey    = 40
	maxAnswer = 256
	maxAmount = 999999999999
	maxTotal  = 5000000000000
	approved  = 1
	reversed  = 2
)

// ledger returns one with some posts, which Restore has to take.
func ledger(t *testing.T, posts ...api.Post) *Ledger {
	t.Helper()
	l, err := Restore(posts)
	if l == nil || err != api.OK {
		t.Fatalf("Restore(%v): %v, %d", posts, l, err)
	}
	return l
}

// some are n posts with the keys "a", "b" and so on, every third one reversed.
func some(n int) []api.Post {
	var posts []api.Post
	for i := range n {
		post := api.Post{Key: string(rune('a' + i)), Amount: 10 * i, State: approved, Answer: fmt.Sprint("answer ", i)}
		if i%3 == 2 {
			post.State = reversed
		}
		posts = append(posts, post)
	}
	return posts
}

// greatest are posts whose total is the greatest one.
func greatest() []api.Post {
	posts := []api.Post{{Key: "rest", Amount: maxTotal - 5*maxAmount, State: approved}}
	for i := range 5 {
		posts = append(posts, api.Post{Key: string(rune('a' + i)), Amount: maxAmount, State: approved})
	}
	return posts
}

// sum is the total of some posts, as the document words it.
func sum(posts []api.Post) int {
	total := 0
	for _, p := range posts {
		if p.State == approved {
			total += p.Amount
		}
	}
	return total
}

// approves asks Approve for OK, and then for the posts.
func approves(t *testing.T, l *Ledger, key string, amount int, answer string, want ...api.Post) {
	t.Helper()
	if err := l.Approve(key, amount, answer); err != api.OK {
		t.Fatalf("Approve(%q, %d, %q): %d", key, amount, answer, err)
	}
	contains(t, l, want)
}

// notApproved asks Approve for an error, after which the ledger is the same.
func notApproved(t *testing.T, l *Ledger, key string, amount int, answer string, want api.Errno) {
	t.Helper()
	before := l.List()
	if err := l.Approve(key, amount, answer); err != want {
		t.Fatalf("Approve(%.60q, %d, %.60q): %d; want %d", key, amount, answer, err, want)
	}
	contains(t, l, before)
}

// reverses asks Reverse for an amount, and then for the posts.
func reverses(t *testing.T, l *Ledger, key string, amount int, want ...api.Post) {
	t.Helper()
	if n, err := l.Reverse(key); n != amount || err != api.OK {
		t.Fatalf("Reverse(%q): %d, %d; want %d", key, n, err, amount)
	}
	contains(t, l, want)
}

// notReversed asks Reverse for an error, after which the ledger is the same.
func notReversed(t *testing.T, l *Ledger, key string, want api.Errno) {
	t.Helper()
	before := l.List()
	if n, err := l.Reverse(key); n != 0 || err != want {
		t.Fatalf("Reverse(%.60q): %d, %d; want %d", key, n, err, want)
	}
	contains(t, l, before)
}

// closes asks Close for a total, after which there are no posts.
func closes(t *testing.T, l *Ledger, want int) {
	t.Helper()
	before := l.List()
	if total := l.Close(); total != want {
		t.Fatalf("Close: %d; want %d", total, want)
	}
	contains(t, l, nil)
	for _, p := range before {
		lacks(t, l, p.Key)
	}
}

// contains asks List, Ask and Total for some posts, in their order.
func contains(t *testing.T, l *Ledger, want []api.Post) {
	t.Helper()
	if got := l.List(); !slices.Equal(got, want) {
		t.Fatalf("List: %v; want %v", got, want)
	}
	if got := l.Total(); got != sum(want) {
		t.Fatalf("Total: %d; want %d", got, sum(want))
	}
	for _, p := range want {
		if got, found := l.Ask(p.Key); got != p || !found {
			t.Fatalf("Ask(%q): %v, %t; want %v", p.Key, got, found, p)
		}
	}
}

// lacks asks Ask and Reverse for a post that isn't there.
func lacks(t *testing.T, l *Ledger, key string) {
	t.Helper()
	if p, found := l.Ask(key); p != (api.Post{}) || found {
		t.Fatalf("Ask(%.60q): %v, %t; want none", key, p, found)
	}
	notReversed(t, l, key, api.ErrNone)
}

// outside returns numbers that are less than least, or greater than most.
func outside(least, most int) []int {
	wrong := []int{api.MinInt, api.MinInt + 1, -1 << 40, -1 << 32, -maxAmount, 1 << 60, 1<<62 + 5, api.MaxInt - 1, api.MaxInt}
	for n := 1; n <= 20; n++ {
		wrong = append(wrong, least-n, most+n)
	}
	return wrong
}

// wrongKeys are those that no post has.
func wrongKeys() []string {
	wrong := []string{"", strings.Repeat("é", 21), strings.Repeat("\x00", 256), strings.Repeat("a", 256+1), strings.Repeat("a", 1<<16+1), strings.Repeat("a", 1<<20)}
	for n := maxKey + 1; n < 100; n++ {
		wrong = append(wrong, strings.Repeat("a", n))
	}
	return wrong
}

// rightKeys are such as a post may have; they differ.
func rightKeys() []string {
	return []string{"m", "b", "a", "A", "aa", "a\x00", "\x00a", "\x00", " a", "a ", " ", "\xff", "é", "e\u0301", "0", "00", "000001TERM0001",
		strings.Repeat("a", maxKey-1), strings.Repeat("a", maxKey), strings.Repeat("a", maxKey-1) + "b", strings.Repeat("é", maxKey/2), strings.Repeat("\x00", maxKey)}
}

// wrongAnswers are those that no post has.
func wrongAnswers() []string {
	wrong := []string{strings.Repeat("é", 129), strings.Repeat("x", 1<<16), strings.Repeat("x", 1<<20)}
	for n := maxAnswer + 1; n < maxAnswer+300; n++ {
		wrong = append(wrong, strings.Repeat("x", n))
	}
	return wrong
}

// rightAnswers are such as a post may have.
func rightAnswers() []string {
	return []string{"", "x", "\x00", "\xff", " ", "00 4111110039431111.1 7 3", strings.Repeat("x", maxAnswer-1), strings.Repeat("x", maxAnswer), strings.Repeat("é", maxAnswer/2), strings.Repeat("\x00", maxAnswer)}
}

// P17.1: New, Ask, Total and List.

func TestNew(t *testing.T) {
	l := New()
	contains(t, l, nil)
	for _, key := range append(wrongKeys(), rightKeys()...) {
		lacks(t, l, key)
	}
	closes(t, l, 0)
}

func TestLedgersHaveTheirOwnPosts(t *testing.T) {
	l, other := New(), New()
	approves(t, l, "a", 60, "x", api.Post{Key: "a", Amount: 60, State: approved, Answer: "x"})
	contains(t, other, nil)
	lacks(t, other, "a")
	approves(t, other, "a", 50, "y", api.Post{Key: "a", Amount: 50, State: approved, Answer: "y"})
	reverses(t, l, "a", 60, api.Post{Key: "a", Amount: 60, State: reversed, Answer: "x"})
	contains(t, other, []api.Post{{Key: "a", Amount: 50, State: approved, Answer: "y"}})
	closes(t, other, 50)
	contains(t, l, []api.Post{{Key: "a", Amount: 60, State: reversed, Answer: "x"}})
}

// A post keeps its place, whatever its key, and when it is reversed.
func TestPostsAreInTheOrderInWhichTheyWereAdded(t *testing.T) {
	l := New()
	var want []api.Post
	for i, key := range rightKeys() {
		want = append(want, api.Post{Key: key, Amount: 100 - i, State: approved, Answer: fmt.Sprint(i)})
		approves(t, l, key, 100-i, fmt.Sprint(i), want...)
	}
	from := samples.New(237)
	for range len(want) {
		i := from.Below(len(want))
		if want[i].State == reversed {
			notReversed(t, l, want[i].Key, api.ErrDone)
			continue
		}
		want[i].State = reversed
		reverses(t, l, want[i].Key, want[i].Amount, want...)
	}
}

// A key is one with the same bytes.
func TestAskOfOtherKeys(t *testing.T) {
	for n := range maxPosts + 1 {
		l := ledger(t, some(n)...)
		for _, key := range append(wrongKeys(), "A", "aa", "a\x00", "\x00a", " a", "a ", "á", "\xe1", "z", "0", strings.Repeat("a", maxKey)) {
			lacks(t, l, key)
		}
	}
}

// P17.2: Approve.

func TestExamples(t *testing.T) {
	l := New()
	a, b := api.Post{Key: "a", Amount: 60, State: approved, Answer: "x"}, api.Post{Key: "b", Amount: 40, State: approved}
	approves(t, l, "a", 60, "x", a)
	approves(t, l, "b", 40, "", a, b)
	notApproved(t, l, "a", 1, "", api.ErrDouble)
	if l.Total() != 100 {
		t.Errorf("Total: %d", l.Total())
	}
	a.State = reversed
	reverses(t, l, "a", 60, a, b)
	notReversed(t, l, "a", api.ErrDone)
	notReversed(t, l, "c", api.ErrNone)
	if l.Total() != 40 {
		t.Errorf("Total: %d", l.Total())
	}
	closes(t, l, 40)
	closes(t, l, 0)
}

func TestApproveTakesArgumentsAtTheEdges(t *testing.T) {
	for _, key := range rightKeys() {
		for _, amount := range []int{0, 1, 60, maxAmount - 1, maxAmount} {
			for _, answer := range rightAnswers() {
				approves(t, New(), key, amount, answer, api.Post{Key: key, Amount: amount, State: approved, Answer: answer})
			}
		}
	}
}

// Each wrong argument in ledgers that have room, that have the key, that are full and that have the greatest total.
func TestApproveRefusesWrongArguments(t *testing.T) {
	for _, l := range []*Ledger{New(), ledger(t, some(3)...), ledger(t, some(maxPosts)...), ledger(t, greatest()...)} {
		for _, key := range wrongKeys() {
			notApproved(t, l, key, 1, "x", api.ErrArg)
			notApproved(t, l, key, maxAmount, "", api.ErrArg)
		}
		for _, amount := range outside(0, maxAmount) {
			notApproved(t, l, "a", amount, "x", api.ErrArg)
			notApproved(t, l, "z", amount, "", api.ErrArg)
		}
		for _, answer := range wrongAnswers() {
			notApproved(t, l, "a", 1, answer, api.ErrArg)
			notApproved(t, l, "z", maxAmount, answer, api.ErrArg)
		}
		notApproved(t, l, "", -1, strings.Repeat("x", maxAnswer+1), api.ErrArg)
	}
}

// Of a reversed post, too.
func TestApproveOfAKeyThatIsThere(t *testing.T) {
	for n := 1; n <= maxPosts; n++ {
		posts := some(n)
		l := ledger(t, posts...)
		for _, p := range posts {
			for _, amount := range []int{0, p.Amount, 1, maxAmount} {
				notApproved(t, l, p.Key, amount, p.Answer, api.ErrDouble)
				notApproved(t, l, p.Key, amount, "", api.ErrDouble)
			}
		}
	}
}

func TestAFullLedger(t *testing.T) {
	l := New()
	var want []api.Post
	for i := range maxPosts {
		want = append(want, api.Post{Key: fmt.Sprint(i), Amount: i, State: approved, Answer: "x"})
		approves(t, l, fmt.Sprint(i), i, "x", want...)
	}
	notApproved(t, l, "z", 0, "", api.ErrFull)
	for i := range want {
		want[i].State = reversed
		reverses(t, l, want[i].Key, i, want...)
		// A reversed post takes its place as well.
		notApproved(t, l, "z", 0, "", api.ErrFull)
	}
	closes(t, l, 0)
	approves(t, l, "z", 5, "", api.Post{Key: "z", Amount: 5, State: approved})
}

func TestTheGreatestTotal(t *testing.T) {
	posts := greatest()
	l := ledger(t, posts...)
	for _, amount := range []int{1, 2, 5, maxAmount} {
		notApproved(t, l, "z", amount, "", api.ErrTotal)
	}
	posts = append(posts, api.Post{Key: "y", State: approved})
	approves(t, l, "y", 0, "", posts...)
	// What is reversed makes room for as much.
	posts[3].State = reversed
	reverses(t, l, posts[3].Key, maxAmount, posts...)
	approves(t, l, "z", maxAmount-1, "", append(posts, api.Post{Key: "z", Amount: maxAmount - 1, State: approved})...)
	notApproved(t, l, "zz", 2, "", api.ErrTotal)
	approves(t, l, "zz", 1, "", append(posts, api.Post{Key: "z", Amount: maxAmount - 1, State: approved}, api.Post{Key: "zz", Amount: 1, State: approved})...)
	notApproved(t, l, "zzz", 1, "", api.ErrTotal)
	closes(t, l, maxTotal)
	approves(t, l, "a", maxAmount, "", api.Post{Key: "a", Amount: maxAmount, State: approved})
}

// Totals up to the greatest one, with an amount that reaches it and one that exceeds it by one.
func TestTotalsNearTheGreatest(t *testing.T) {
	for _, rest := range []int{0, 1, 2, 3, 10, 255, 1 << 16, 1 << 32, maxAmount - 1} {
		posts := greatest()
		// The post that is reversed leaves room for as much as the next one takes, and the rest.
		posts[5].State = reversed
		posts = append(posts, api.Post{Key: "y", Amount: maxAmount - rest, State: approved})
		l := ledger(t, posts...)
		notApproved(t, l, "z", rest+1, "", api.ErrTotal)
		approves(t, l, "z", rest, "", append(posts, api.Post{Key: "z", Amount: rest, State: approved})...)
		if l.Total() != maxTotal {
			t.Errorf("Total: %d", l.Total())
		}
	}
}

// Of all reasons to refuse a post, the first one is told.
func TestTheFirstErrorIsTold(t *testing.T) {
	posts := greatest()
	for i := len(posts); i < maxPosts; i++ {
		posts = append(posts, api.Post{Key: fmt.Sprint(i), State: approved})
	}
	full := ledger(t, posts...)
	notApproved(t, full, "a", maxAmount+1, "", api.ErrArg)
	notApproved(t, full, "a", 1, strings.Repeat("x", maxAnswer+1), api.ErrArg)
	notApproved(t, full, "a", 1, "", api.ErrDouble)
	notApproved(t, full, "z", 1, "", api.ErrFull)
	notApproved(t, full, "z", 0, "", api.ErrFull)
	roomy := ledger(t, posts[:maxPosts-1]...)
	notApproved(t, roomy, "a", 1, "", api.ErrDouble)
	notApproved(t, roomy, "z", 1, "", api.ErrTotal)
}

// P17.3: Reverse and Close.

func TestReverse(t *testing.T) {
	for n := 1; n <= maxPosts; n++ {
		posts := some(n)
		l := ledger(t, posts...)
		for i := range posts {
			if posts[i].State == approved {
				posts[i].State = reversed
				reverses(t, l, posts[i].Key, posts[i].Amount, posts...)
			}
			notReversed(t, l, posts[i].Key, api.ErrDone)
			notReversed(t, l, posts[i].Key, api.ErrDone)
		}
		closes(t, l, 0)
	}
}

func TestReverseOfAmountsAtTheEdges(t *testing.T) {
	for _, amount := range []int{0, 1, maxAmount - 1, maxAmount} {
		l := New()
		approves(t, l, "a", amount, "x", api.Post{Key: "a", Amount: amount, State: approved, Answer: "x"})
		reverses(t, l, "a", amount, api.Post{Key: "a", Amount: amount, State: reversed, Answer: "x"})
		notReversed(t, l, "a", api.ErrDone)
	}
}

func TestClose(t *testing.T) {
	for n := range maxPosts + 1 {
		posts := some(n)
		l := ledger(t, posts...)
		closes(t, l, sum(posts))
		closes(t, l, 0)
		// The same keys are new ones now, in another order.
		slices.Reverse(posts)
		for i := range posts {
			posts[i].State = approved
			approves(t, l, posts[i].Key, posts[i].Amount, posts[i].Answer, posts[:i+1]...)
		}
		if n == maxPosts {
			notApproved(t, l, "z", 0, "", api.ErrFull)
		}
		closes(t, l, sum(posts))
	}
	closes(t, ledger(t, greatest()...), maxTotal)
}

// P17.4: Restore.

func TestRestore(t *testing.T) {
	for n := range maxPosts + 1 {
		posts := some(n)
		contains(t, ledger(t, posts...), posts)
	}
	contains(t, ledger(t, []api.Post{}...), nil)
	contains(t, ledger(t, greatest()...), greatest())
	for _, key := range rightKeys() {
		for _, amount := range []int{0, 1, maxAmount - 1, maxAmount} {
			for _, state := range []int{approved, reversed} {
				for _, answer := range rightAnswers() {
					posts := []api.Post{{Key: "z"}, {Key: key}, {Key: "y"}}
					for i := range posts {
						posts[i].Amount, posts[i].State, posts[i].Answer = amount, state, answer
					}
					contains(t, ledger(t, posts...), posts)
				}
			}
		}
	}
}

func TestRestoreRefusesWrongPosts(t *testing.T) {
	wrong := []api.Post{{}, {Key: "z"}, {State: approved}, {Amount: 1, State: reversed, Answer: "x"}}
	for _, state := range []int{approved, reversed} {
		for _, key := range wrongKeys() {
			wrong = append(wrong, api.Post{Key: key, Amount: 1, State: state, Answer: "x"})
		}
		for _, amount := range outside(0, maxAmount) {
			wrong = append(wrong, api.Post{Key: "z", Amount: amount, State: state, Answer: "x"})
		}
		for _, answer := range wrongAnswers() {
			wrong = append(wrong, api.Post{Key: "z", Amount: 1, State: state, Answer: answer})
		}
	}
	for _, state := range append(outside(approved, reversed), 1<<8+1, 1<<16+2, 1<<32+1) {
		wrong = append(wrong, api.Post{Key: "z", Amount: 1, State: state, Answer: "x"})
	}
	for i, post := range wrong {
		notRestored(t, []api.Post{post})
		posts := some(maxPosts)
		posts[i%maxPosts] = post
		notRestored(t, posts)
		notRestored(t, posts[:i%maxPosts+1])
	}
}

// Whatever their states.
func TestRestoreRefusesTheSameKeyTwice(t *testing.T) {
	notRestored(t, []api.Post{{Key: "a", State: approved}, {Key: "a", State: approved}})
	for first := range maxPosts {
		for second := range first {
			for states := range 4 {
				posts := some(maxPosts)
				posts[second].Key = strings.Clone(posts[first].Key)
				posts[first].State, posts[second].State = 1+states%2, 1+states/2
				notRestored(t, posts)
			}
		}
	}
}

func TestRestoreRefusesTooMany(t *testing.T) {
	for _, n := range []int{maxPosts + 1, maxPosts + 2, 48, 100, 256 + 1, 1 << 16} {
		for _, state := range []int{approved, reversed} {
			var posts []api.Post
			for i := range n {
				posts = append(posts, api.Post{Key: fmt.Sprint(i), State: state})
			}
			notRestored(t, posts)
		}
	}
}

// Reversed posts don't count, however much they are.
func TestRestoreRefusesTooGreatTotals(t *testing.T) {
	for at := range 7 {
		posts := slices.Insert(greatest(), at, api.Post{Key: "z", Amount: 1, State: approved})
		notRestored(t, posts)
		posts[at].Amount = maxAmount
		notRestored(t, posts)
		posts[at].State = reversed
		contains(t, ledger(t, posts...), posts)
		posts[at] = api.Post{Key: "z", State: approved}
		contains(t, ledger(t, posts...), posts)
	}
	posts := some(maxPosts)
	for i := range posts {
		posts[i].Amount, posts[i].State = maxAmount, reversed
	}
	contains(t, ledger(t, posts...), posts)
	for i := range posts {
		posts[i].State = approved
		if i < 5 {
			contains(t, ledger(t, posts...), posts)
		} else {
			notRestored(t, posts)
		}
	}
}

// notRestored asks Restore for ErrArg, and no ledger.
func notRestored(t *testing.T, posts []api.Post) {
	t.Helper()
	if l, err := Restore(posts); l != nil || err != api.ErrArg {
		t.Fatalf("Restore(%.400v): %v, %d", posts, l, err)
	}
}

// P17.5: arguments and results. (After each error the tests above ask for the same posts.)

// lent returns a string in memory that can be overwritten.
func lent(s string) (string, []byte) {
	b := []byte(s)
	return unsafe.String(&b[0], len(b)), b
}

// Of a post that is added, and of posts that are refused.
func TestTextsAreNeitherModifiedNorRetained(t *testing.T) {
	const name, text = "000001TERM0001", "00 4111110039431111.1 7 3"
	for _, posts := range [][]api.Post{nil, some(3), {{Key: name, State: reversed}}, some(maxPosts), greatest()} {
		l := ledger(t, posts...)
		for range 2 {
			key, keyMemory := lent(name)
			answer, answerMemory := lent(text)
			err := l.Approve(key, 5, answer)
			if key != name || answer != text {
				t.Fatalf("Approve made %q and %q", key, answer)
			}
			samples.Spoil(keyMemory)
			samples.Spoil(answerMemory)
			if err == api.OK {
				posts = append(posts, api.Post{Key: name, Amount: 5, State: approved, Answer: text})
			}
			contains(t, l, posts)
		}
	}
}

func TestAskAndReverseNeitherModifyNorRetain(t *testing.T) {
	const name = "000001TERM0001"
	post := api.Post{Key: name, Amount: 5, State: approved, Answer: "x"}
	l := ledger(t, post)
	for range 3 {
		key, memory := lent(name)
		asked, _ := l.Ask(key)
		l.Reverse(key)
		if key != name {
			t.Fatalf("%q became %q", name, key)
		}
		samples.Spoil(memory)
		if asked != post {
			t.Fatalf("Ask(%q): %v; want %v", name, asked, post)
		}
		post.State = reversed
		contains(t, l, []api.Post{post})
	}
}

func TestRestoreNeitherModifiesNorRetains(t *testing.T) {
	var memories [][]byte
	whole := make([]api.Post, 40)
	for i := range whole {
		key, keyMemory := lent(fmt.Sprint("key ", i))
		answer, answerMemory := lent(fmt.Sprint("answer ", i))
		whole[i] = api.Post{Key: key, Amount: i, State: 1 + i%2, Answer: answer}
		memories = append(memories, keyMemory, answerMemory)
	}
	before := slices.Clone(whole)
	l := ledger(t, whole[10:20]...)
	notRestored(t, append(whole[:10:10], whole[0]))
	notRestored(t, whole[10:35])
	if !slices.Equal(whole, before) {
		t.Fatalf("Restore made %v", whole)
	}
	for i := range whole {
		whole[i] = api.Post{Key: "x", Amount: 99, State: approved, Answer: "y"}
	}
	for _, memory := range memories {
		samples.Spoil(memory)
	}
	var want []api.Post
	for i := 10; i < 20; i++ {
		want = append(want, api.Post{Key: fmt.Sprint("key ", i), Amount: i, State: 1 + i%2, Answer: fmt.Sprint("answer ", i)})
	}
	contains(t, l, want)
}

// use makes calls of all kinds.
func use(l *Ledger) {
	for i := range maxPosts {
		l.Reverse(string(rune('a' + i)))
		l.Approve(fmt.Sprint(i), i, "new")
	}
	l.Close()
	for i := range maxPosts {
		l.Approve(fmt.Sprint(i), i, "newer")
	}
}

// The spare capacity of a list is not that of its ledger.
func TestLedgersDoNotChangeRestoredLists(t *testing.T) {
	whole := some(maxPosts)
	use(ledger(t, whole[:5]...))
	if !slices.Equal(whole, some(maxPosts)) {
		t.Errorf("the list became %v", whole)
	}
}

// A result tells the posts at its time.
func TestResultsStayAsTheyAre(t *testing.T) {
	for n := 1; n <= maxPosts; n++ {
		posts := some(n)
		l := ledger(t, posts...)
		list := l.List()
		asked, _ := l.Ask("a")
		use(l)
		if !slices.Equal(list, posts) || asked != posts[0] {
			t.Errorf("the list became %v, the post %v", list, asked)
		}
	}
}

func TestResultsAreNewMemory(t *testing.T) {
	for _, posts := range [][]api.Post{some(1), some(5), some(maxPosts)} {
		l := ledger(t, posts...)
		owned := map[*byte]bool{}
		see := func(results ...api.Post) {
			for _, p := range results {
				for _, text := range []string{p.Key, p.Answer} {
					if owned[unsafe.StringData(text)] {
						t.Errorf("the memory of %q is shared", text)
					}
					owned[unsafe.StringData(text)] = true
				}
			}
		}
		see(posts...)
		see(l.posts...)
		first, second := l.List(), l.List()
		see(first...)
		see(second...)
		for _, p := range posts {
			asked, _ := l.Ask(p.Key)
			see(asked)
		}
		first = first[:cap(first)]
		for i := range first {
			first[i] = api.Post{Key: "x", Amount: 99, State: approved, Answer: "y"}
		}
		if !slices.Equal(second, posts) {
			t.Errorf("two results share memory: %v", second)
		}
		contains(t, l, posts)
	}
}

// P17.6 and P17.7: theorems.

// call is one of the calls, with its arguments.
type call struct {
	do             int // 0 to 5: Approve; 6 to 8: Reverse; 9: Ask; 10: Close
	key            string
	amount, answer int // the answer by its length
}

// random yields calls with few keys; Close is rare.
func random(from *samples.Source) call {
	c := call{do: from.Below(10), key: fmt.Sprint(from.Below(40)), amount: from.Below(1000), answer: from.Below(20)}
	switch from.Below(40) {
	case 0:
		c.do = 10
	case 1:
		c.key = strings.Repeat("0", 39+from.Below(3))
	case 2:
		c.amount = []int{-1, maxAmount + 1}[from.Below(2)]
	case 3:
		c.answer = 255 + from.Below(3)
	case 4, 5, 6, 7, 8, 9, 10, 11:
		c.amount = maxAmount - from.Below(3)
	}
	return c
}

// on makes a call to a ledger; what it answers is written as a text.
func (c call) on(l *Ledger) (string, api.Errno) {
	switch {
	case c.do < 6:
		err := l.Approve(c.key, c.amount, strings.Repeat("x", c.answer))
		return "", err
	case c.do < 9:
		n, err := l.Reverse(c.key)
		return fmt.Sprint(n), err
	case c.do == 9:
		p, found := l.Ask(c.key)
		return fmt.Sprint(p, found), api.OK
	}
	return fmt.Sprint(l.Close()), api.OK
}

// onList makes a call as the document words it.
func (c call) onList(posts []api.Post) ([]api.Post, string, api.Errno) {
	at := slices.IndexFunc(posts, func(p api.Post) bool { return p.Key == c.key })
	switch {
	case c.do < 6:
		switch {
		case len(c.key) < 1 || len(c.key) > 40 || c.amount < 0 || c.amount > 999999999999 || c.answer > 256:
			return posts, "", api.ErrArg
		case at >= 0:
			return posts, "", api.ErrDouble
		case len(posts) == 24:
			return posts, "", api.ErrFull
		case sum(posts)+c.amount > 5000000000000:
			return posts, "", api.ErrTotal
		}
		return append(posts, api.Post{Key: c.key, Amount: c.amount, State: 1, Answer: strings.Repeat("x", c.answer)}), "", api.OK
	case c.do < 9 && at < 0:
		return posts, "0", api.ErrNone
	case c.do < 9 && posts[at].State == 2:
		return posts, "0", api.ErrDone
	case c.do < 9:
		posts[at].State = 2
		return posts, fmt.Sprint(posts[at].Amount), api.OK
	case c.do == 9 && at < 0:
		return posts, fmt.Sprint(api.Post{}, false), api.OK
	case c.do == 9:
		return posts, fmt.Sprint(posts[at], true), api.OK
	}
	return nil, fmt.Sprint(sum(posts)), api.OK
}

// Random calls, against a list that is kept as the document words it; before each of them a ledger is restored, which answers it as well.
func TestRandomCalls(t *testing.T) {
	from := samples.New(238)
	counts := map[api.Errno]int{}
	for range 40 {
		l := New()
		var posts []api.Post
		for range 500 {
			c, restored := random(from), ledger(t, l.List()...)
			var want string
			var wantErr api.Errno
			posts, want, wantErr = c.onList(posts)
			for _, x := range []*Ledger{l, restored} {
				if got, err := c.on(x); got != want || err != wantErr {
					t.Fatalf("%v: %s, %d; want %s, %d", c, got, err, want, wantErr)
				}
				contains(t, x, posts)
			}
			counts[wantErr]++
		}
	}
	for _, err := range []api.Errno{api.OK, api.ErrArg, api.ErrDouble, api.ErrFull, api.ErrTotal, api.ErrNone, api.ErrDone} {
		if counts[err] < 100 {
			t.Errorf("only %d calls answered %d", counts[err], err)
		}
	}
}

// A restored ledger goes on like the one that was listed, through many calls.
func TestRestoredLedgersGoOn(t *testing.T) {
	from := samples.New(239)
	for range 100 {
		l := New()
		for range from.Below(200) {
			random(from).on(l)
		}
		restored := ledger(t, l.List()...)
		for range 200 {
			c := random(from)
			first, firstErr := c.on(l)
			if second, err := c.on(restored); first != second || firstErr != err {
				t.Fatalf("%v: %s, %d; the restored ledger: %s, %d", c, first, firstErr, second, err)
			}
			contains(t, restored, l.List())
		}
	}
}

// What was approved minus what was reversed, counted by the answers alone; and no key is reversed twice, nor forgotten, until a Close.
func TestBookkeeping(t *testing.T) {
	from := samples.New(240)
	closed := 0
	for range 100 {
		l := New()
		total, answers, done := 0, map[string]string{}, map[string]bool{}
		for range 300 {
			c := random(from)
			got, err := c.on(l)
			switch {
			case c.do < 6 && err == api.OK:
				total += c.amount
				answers[c.key] = strings.Repeat("x", c.answer)
			case c.do >= 6 && c.do < 9 && err == api.OK:
				var n int
				fmt.Sscan(got, &n)
				total -= n
				if done[c.key] {
					t.Fatalf("%q was reversed twice", c.key)
				}
				done[c.key] = true
			case c.do == 10:
				if got != fmt.Sprint(total) {
					t.Fatalf("Close: %s; want %d", got, total)
				}
				total, answers, done = 0, map[string]string{}, map[string]bool{}
				closed++
			}
			if l.Total() != total || total < 0 || total > maxTotal || len(l.List()) != len(answers) {
				t.Fatalf("Total: %d; want %d, of %d posts", l.Total(), total, len(answers))
			}
			for key, answer := range answers {
				if p, found := l.Ask(key); !found || p.Answer != answer {
					t.Fatalf("Ask(%q): %v, %t; want the answer %q", key, p, found, answer)
				}
			}
		}
	}
	if closed < 100 {
		t.Errorf("only %d ledgers were closed", closed)
	}
}
