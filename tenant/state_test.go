package tenant

import (
	"bytes"
	"fmt"
	"slices"
	"strings"
	"testing"

	"moneyer/api"
	"moneyer/samples"
	"moneyer/vault"
)

// sketch is what a State contains; count is added to the lengths of its lists.
type sketch struct {
	version                         int
	rule                            api.Rule
	routes                          []api.Route
	uses                            []api.Use
	posts                           []api.Post
	moreRoutes, moreUses, morePosts int
}

// number is one as the document encodes it.
func number(n int) []byte {
	b := make([]byte, 8)
	for i := range b {
		b[7-i] = byte(uint64(n) >> (8 * i))
	}
	return b
}

// text is a string as the document encodes it.
func text(s string) []byte {
	return append(number(len(s)), s...)
}

// parts are the encoding of a sketch, number by number and string by string.
func (s sketch) parts() [][]byte {
	p := [][]byte{number(s.version), number(s.rule.Ticks), number(s.rule.Times), number(s.rule.Sum), number(s.rule.Once)}
	p = append(p, number(len(s.routes)+s.moreRoutes))
	for _, r := range s.routes {
		p = append(p, text(r.Prefix), number(r.Target))
	}
	p = append(p, number(len(s.uses)+s.moreUses))
	for _, u := range s.uses {
		p = append(p, text(u.Card), number(u.Window), number(u.Times), number(u.Sum))
	}
	p = append(p, number(len(s.posts)+s.morePosts))
	for _, o := range s.posts {
		p = append(p, text(o.Key), number(o.Amount), number(o.State), text(o.Answer))
	}
	return p
}

// bytes is the encoding of a sketch.
func (s sketch) bytes() []byte {
	return slices.Concat(s.parts()...)
}

// changed returns a sketch after a change that leaves this one as it is.
func (s sketch) changed(change func(s *sketch)) sketch {
	s.routes, s.uses, s.posts = slices.Clone(s.routes), slices.Clone(s.uses), slices.Clone(s.posts)
	change(&s)
	return s
}

// decoded returns the sketch of a State.
func decoded(t *testing.T, b []byte) sketch {
	t.Helper()
	rest := b
	take := func(n int) []byte {
		t.Helper()
		if n < 0 || n > len(rest) {
			t.Fatalf("% x ends too early", b)
		}
		part := rest[:n]
		rest = rest[n:]
		return part
	}
	n := func() int {
		t.Helper()
		value := 0
		for _, x := range take(8) {
			value = value*256 + int(x)
		}
		return value
	}
	word := func() string {
		t.Helper()
		return string(take(n()))
	}
	s := sketch{version: n(), rule: api.Rule{Ticks: n(), Times: n(), Sum: n(), Once: n()}}
	for range n() {
		s.routes = append(s.routes, api.Route{Prefix: word(), Target: n()})
	}
	for range n() {
		s.uses = append(s.uses, api.Use{Card: word(), Window: n(), Times: n(), Sum: n()})
	}
	for range n() {
		s.posts = append(s.posts, api.Post{Key: word(), Amount: n(), State: n(), Answer: word()})
	}
	if len(rest) > 0 {
		t.Fatalf("% x has % x behind it", b, rest)
	}
	return s
}

// busy returns a sketch with some of everything.
func busy(t *testing.T, o owner) sketch {
	t.Helper()
	return sketch{
		version: 3,
		rule:    api.Rule{Ticks: 10, Times: 2, Sum: 100, Once: 80},
		routes:  []api.Route{{Prefix: "0", Target: 1}, {Prefix: "4", Target: 7}, {Prefix: "41", Target: 99}, {Prefix: "5", Target: 2}},
		uses:    []api.Use{{Card: o.card(t, visa), Window: 1, Times: 2, Sum: 100}, {Card: "x", Window: api.MaxInt, Times: 1 << 50, Sum: 1 << 50}},
		posts: []api.Post{
			{Key: "000001TERM0001", Amount: 60, State: approved, Answer: fmt.Sprintf("00 %s 7 3", o.token(t, 1, visa))},
			{Key: "x", Amount: maxAmount, State: reversed, Answer: fmt.Sprintf("00 %s 99 %d", o.token(t, 3, numbers(1)[0]), maxTick)},
			{Key: strings.Repeat(" ", 40), Amount: 0, State: approved, Answer: fmt.Sprintf("00 %s 1 0", o.token(t, 2, visa))},
		},
	}
}

// loads asks Load for a tenant that has the same State.
func (o owner) loads(t *testing.T, b []byte) *Tenant {
	t.Helper()
	x, err := Load(o.master, o.number, b)
	if x == nil || err != api.OK {
		t.Fatalf("Load(% x): %v, %d", b, x, err)
	}
	if !bytes.Equal(x.State(), b) {
		t.Fatalf("Load(% x): % x", b, x.State())
	}
	return x
}

// doesNotLoad asks Load for ErrState, and no tenant.
func (o owner) doesNotLoad(t *testing.T, b []byte) {
	t.Helper()
	if x, err := Load(o.master, o.number, b); x != nil || err != api.ErrState {
		t.Fatalf("Load(% .400x): %v, %d", b, x, err)
	}
}

// P18.4: State.

func TestState(t *testing.T) {
	x := someone.tenant(t)
	want := sketch{version: 1, rule: api.Rule{Ticks: 1}}
	is := func() {
		t.Helper()
		if got := x.State(); !bytes.Equal(got, want.bytes()) {
			t.Fatalf("State: % x; want % x", got, want.bytes())
		}
	}
	is()
	x.PutRoute("41", 99)
	x.PutRoute("4", 7)
	want.routes = []api.Route{{Prefix: "4", Target: 7}, {Prefix: "41", Target: 99}}
	is()
	want.rule = api.Rule{Ticks: maxTick, Times: 2, Sum: maxAmount, Once: 1 << 33}
	x.SetRule(want.rule)
	is()
	x.Handle(sale("0100", visa, 258, "000001"), 1<<35)
	want.uses = []api.Use{{Card: someone.card(t, visa), Times: 1, Sum: 258}}
	want.posts = []api.Post{{Key: "000001TERM0001", Amount: 258, State: approved, Answer: fmt.Sprintf("00 %s 99 %d", someone.token(t, 1, visa), 1<<35)}}
	is()
	x.Rotate()
	want.version = 2
	is()
	other := numbers(1)[0]
	x.Handle(sale("0200", other, 5, "000002"), maxTick)
	want.uses = append(want.uses, api.Use{Card: someone.card(t, other), Window: 1, Times: 1, Sum: 5})
	want.posts = append(want.posts, api.Post{Key: "000002TERM0001", Amount: 5, State: approved, Answer: fmt.Sprintf("00 %s 99 %d", someone.token(t, 2, other), maxTick)})
	is()
	x.Handle(undo("0400", "000001"), 7)
	want.uses[0] = api.Use{Card: someone.card(t, visa)}
	want.posts[0].State = reversed
	is()
	x.DropRoute("4")
	want.routes = want.routes[1:]
	is()
	x.Close()
	want.posts = nil
	is()
	for range 300 {
		x.Rotate()
	}
	want.version = 255
	is()
}

// The same bytes, in full, by hand.
func TestStateInBytes(t *testing.T) {
	x := someone.open(t, api.Rule{Ticks: 10, Times: 2, Sum: 100, Once: 80})
	x.Handle(sale("0100", visa, 60, "000001"), 3)
	answer := "00 " + someone.token(t, 1, visa) + " 7 3"
	want := "\x00\x00\x00\x00\x00\x00\x00\x01" +
		"\x00\x00\x00\x00\x00\x00\x00\x0a\x00\x00\x00\x00\x00\x00\x00\x02\x00\x00\x00\x00\x00\x00\x00\x64\x00\x00\x00\x00\x00\x00\x00\x50" +
		"\x00\x00\x00\x00\x00\x00\x00\x01" + "\x00\x00\x00\x00\x00\x00\x00\x014\x00\x00\x00\x00\x00\x00\x00\x07" +
		"\x00\x00\x00\x00\x00\x00\x00\x01" + "\x00\x00\x00\x00\x00\x00\x00\x10" + someone.token(t, 1, visa)[:16] +
		"\x00\x00\x00\x00\x00\x00\x00\x00\x00\x00\x00\x00\x00\x00\x00\x01\x00\x00\x00\x00\x00\x00\x00\x3c" +
		"\x00\x00\x00\x00\x00\x00\x00\x01" + "\x00\x00\x00\x00\x00\x00\x00\x0e000001TERM0001" +
		"\x00\x00\x00\x00\x00\x00\x00\x3c\x00\x00\x00\x00\x00\x00\x00\x01" + "\x00\x00\x00\x00\x00\x00\x00" + string(rune(len(answer))) + answer
	if got := x.State(); string(got) != want {
		t.Errorf("State: %q; want %q", got, want)
	}
}

// P18.5: Load.

func TestLoad(t *testing.T) {
	from := samples.New(246)
	for range 10 {
		o := anyone(from)
		s := busy(t, o)
		x := o.loads(t, s.bytes())
		if x.Rule() != s.rule || x.Total() != 60 || !slices.Equal(x.Posts(), s.posts) {
			t.Fatalf("%v, %d, %v", x.Rule(), x.Total(), x.Posts())
		}
		o.loads(t, sketch{version: 1, rule: api.Rule{Ticks: 1}}.bytes())
		m := sale("0100", visa, 60, "000001")
		changesNothing(t, x, m, 3, reply(m, "00", "7", o.token(t, 1, visa)))
		declines(t, x, sale("0100", visa, 1, "000002"), 13, "65")
		approves(t, x, sale("0100", visa, 1, "000002"), 23, 99, o.token(t, 3, visa))
		reverses(t, x, undo("0400", "000001"), 3, "000001TERM0001")
		if version, err := x.Rotate(); version != 4 || err != api.OK {
			t.Fatalf("Rotate: %d, %d", version, err)
		}
	}
}

// Each byte that is missing at the end, and bytes behind the end.
func TestLoadRefusesBytesThatAreNotWhole(t *testing.T) {
	b := busy(t, someone).bytes()
	someone.doesNotLoad(t, nil)
	for n := range b {
		someone.doesNotLoad(t, b[:n])
		someone.doesNotLoad(t, b[len(b)-n:])
	}
	for n := 1; n < 20; n++ {
		someone.doesNotLoad(t, append(bytes.Clone(b), make([]byte, n)...))
	}
	someone.doesNotLoad(t, append([]byte{0}, b...))
	someone.doesNotLoad(t, append(bytes.Clone(b), b...))
	someone.doesNotLoad(t, make([]byte, 64))
	someone.doesNotLoad(t, bytes.Repeat([]byte{255}, 1<<16))
	someone.doesNotLoad(t, bytes.Repeat([]byte{0, 0, 0, 0, 0, 0, 0, 1}, 1<<16))
}

// Each number and each length, if it is greater than MaxInt, with what else is kept of it; and lengths that are too great for the bytes behind them.
func TestLoadRefusesNumbersThatAreTooGreat(t *testing.T) {
	parts := busy(t, someone).parts()
	for i, p := range parts {
		for _, first := range []byte{0x80, 0x81, 0xff} {
			wrong := slices.Clone(parts)
			wrong[i] = bytes.Clone(p)
			wrong[i][0] = first
			someone.doesNotLoad(t, slices.Concat(wrong...))
		}
	}
	fresh := sketch{version: 1, rule: api.Rule{Ticks: 1}}
	for _, size := range []int{1, 2, 24, 25, 1 << 20, 1 << 32, 1 << 62, api.MaxInt} {
		for _, change := range []func(s *sketch){
			func(s *sketch) { s.moreRoutes = size },
			func(s *sketch) { s.moreUses = size },
			func(s *sketch) { s.morePosts = size },
		} {
			someone.doesNotLoad(t, fresh.changed(change).bytes())
			someone.doesNotLoad(t, busy(t, someone).changed(change).bytes())
		}
		b := fresh.bytes()
		someone.doesNotLoad(t, slices.Concat(b[:40], number(1), number(size)))
		someone.doesNotLoad(t, slices.Concat(b[:48], number(1), number(size), b[48:]))
		someone.doesNotLoad(t, slices.Concat(b[:56], number(1), number(size), b[56:]))
	}
}

func TestVersionsOfStates(t *testing.T) {
	s := busy(t, someone)
	s.posts = nil
	for version := 1; version <= 255; version++ {
		s.version = version
		x := someone.loads(t, s.bytes())
		if version%50 == 5 {
			approves(t, x, sale("0120", visa, 1, "000001"), 3, 99, someone.token(t, version, visa))
		}
	}
	for _, version := range append(outside(1, 255), 1<<8+1, 1<<32+1, 512) {
		s.version = version
		someone.doesNotLoad(t, s.bytes())
	}
}

func TestRulesOfStates(t *testing.T) {
	s := busy(t, someone)
	for _, ticks := range []int{1, maxTick} {
		for _, n := range []int{0, maxAmount} {
			s.rule = api.Rule{Ticks: ticks, Times: n, Sum: n, Once: n}
			someone.loads(t, s.bytes())
		}
	}
	for _, n := range outside(1, maxTick) {
		s.rule = api.Rule{Ticks: n}
		someone.doesNotLoad(t, s.bytes())
	}
	for _, n := range outside(0, maxAmount) {
		for _, r := range []api.Rule{{Ticks: 1, Times: n}, {Ticks: 1, Sum: n}, {Ticks: 1, Once: n}} {
			s.rule = r
			someone.doesNotLoad(t, s.bytes())
		}
	}
}

func TestRoutesOfStates(t *testing.T) {
	s := busy(t, someone)
	all := func(n int) []api.Route {
		var routes []api.Route
		for i := range n {
			routes = append(routes, api.Route{Prefix: fmt.Sprint(100 + i), Target: 1 + i%99})
		}
		return routes
	}
	with := func(routes ...api.Route) []byte {
		return s.changed(func(s *sketch) { s.routes = routes }).bytes()
	}
	for n := range maxRoutes + 1 {
		someone.loads(t, with(all(n)...))
	}
	for _, n := range []int{25, 26, 48, 100} {
		someone.doesNotLoad(t, with(all(n)...))
	}
	for i := range maxRoutes {
		for j := range i {
			// In the wrong order, and twice, with the same target and another one.
			wrong := all(maxRoutes)
			wrong[i], wrong[j] = wrong[j], wrong[i]
			someone.doesNotLoad(t, with(wrong...))
			wrong = all(maxRoutes)
			wrong[i].Prefix = wrong[j].Prefix
			someone.doesNotLoad(t, with(wrong...))
			wrong[i] = wrong[j]
			someone.doesNotLoad(t, with(wrong...))
		}
	}
	someone.loads(t, with(api.Route{Prefix: "4", Target: 1}, api.Route{Prefix: "40", Target: 1}, api.Route{Prefix: "41", Target: 1}, api.Route{Prefix: "5", Target: 1}))
	someone.doesNotLoad(t, with(api.Route{Prefix: "40", Target: 1}, api.Route{Prefix: "4", Target: 1}))
	someone.doesNotLoad(t, with(api.Route{Prefix: "9", Target: 1}, api.Route{Prefix: "10", Target: 1}))
	someone.doesNotLoad(t, with(api.Route{Prefix: "4", Target: 1}, api.Route{Prefix: "4", Target: 1}))
	for _, prefix := range []string{"0", "00000000", "99999999", "12345678"} {
		for _, target := range []int{1, 99} {
			someone.loads(t, with(api.Route{Prefix: prefix, Target: target}))
		}
		for _, target := range outside(1, 99) {
			someone.doesNotLoad(t, with(api.Route{Prefix: prefix, Target: target}))
		}
	}
	for _, prefix := range []string{"", "000000000", "x", "4x", "4 ", "-1", "+1", "é", "\x00", "４", strings.Repeat("1", 256+1)} {
		someone.doesNotLoad(t, with(api.Route{Prefix: prefix, Target: 1}))
	}
}

func TestUsesOfStates(t *testing.T) {
	s := busy(t, someone)
	all := func(n int) []api.Use {
		var uses []api.Use
		for i := range n {
			uses = append(uses, api.Use{Card: fmt.Sprint(i), Window: i, Times: 2 * i, Sum: 3 * i})
		}
		return uses
	}
	with := func(uses ...api.Use) []byte {
		return s.changed(func(s *sketch) { s.uses = uses }).bytes()
	}
	for n := range maxCards + 1 {
		list := all(n)
		someone.loads(t, with(list...))
		slices.Reverse(list)
		someone.loads(t, with(list...))
	}
	for _, n := range []int{17, 18, 32, 100} {
		someone.doesNotLoad(t, with(all(n)...))
	}
	for i := range maxCards {
		for j := range i {
			wrong := all(maxCards)
			wrong[i].Card = wrong[j].Card
			someone.doesNotLoad(t, with(wrong...))
		}
	}
	for _, card := range []string{"x", "\x00", strings.Repeat("9", 32)} {
		someone.loads(t, with(api.Use{Card: card, Window: api.MaxInt, Times: 1 << 50, Sum: 1 << 50}))
	}
	for _, card := range []string{"", strings.Repeat("9", 33), strings.Repeat("9", 256+1)} {
		someone.doesNotLoad(t, with(api.Use{Card: card}))
	}
	for _, n := range outside(0, 1<<50) {
		someone.doesNotLoad(t, with(api.Use{Card: "x", Times: n}))
		someone.doesNotLoad(t, with(api.Use{Card: "x", Sum: n}))
	}
}

func TestPostsOfStates(t *testing.T) {
	s := busy(t, someone)
	answer := s.posts[0].Answer
	all := func(n int) []api.Post {
		var posts []api.Post
		for i := range n {
			posts = append(posts, api.Post{Key: fmt.Sprint(i), Amount: i, State: 1 + i%2, Answer: answer})
		}
		return posts
	}
	with := func(posts ...api.Post) []byte {
		return s.changed(func(s *sketch) { s.posts = posts }).bytes()
	}
	for n := range maxPosts + 1 {
		someone.loads(t, with(all(n)...))
	}
	for _, n := range []int{25, 26, 48, 100} {
		someone.doesNotLoad(t, with(all(n)...))
	}
	for i := range maxPosts {
		for j := range i {
			wrong := all(maxPosts)
			wrong[i].Key = wrong[j].Key
			someone.doesNotLoad(t, with(wrong...))
		}
	}
	for _, key := range []string{"", strings.Repeat("x", 41), strings.Repeat("x", 256+1)} {
		someone.doesNotLoad(t, with(api.Post{Key: key, Amount: 1, State: approved, Answer: answer}))
	}
	for _, n := range outside(0, maxAmount) {
		someone.doesNotLoad(t, with(api.Post{Key: "x", Amount: n, State: approved, Answer: answer}))
		someone.doesNotLoad(t, with(api.Post{Key: "x", Amount: n, State: reversed, Answer: answer}))
	}
	for _, n := range outside(approved, reversed) {
		someone.doesNotLoad(t, with(api.Post{Key: "x", Amount: 1, State: n, Answer: answer}))
	}
	great := all(6)
	for i := range great {
		great[i].Amount, great[i].State = maxAmount, approved
	}
	someone.doesNotLoad(t, with(great...))
	great[5].Amount = maxTotal - 5*maxAmount
	someone.loads(t, with(great...))
	great[5].Amount++
	someone.doesNotLoad(t, with(great...))
	great[2].State = reversed
	someone.loads(t, with(great...))
}

// strangers are tokens of a version whose strings aren't those of card numbers.
func strangers(t *testing.T, o owner, version int) []string {
	t.Helper()
	v, err := vault.New(o.master, o.number, version)
	ok(t, err)
	var list []string
	for middle := range 40 {
		token := fmt.Sprintf("411111%06d1111.%d", middle, version)
		if _, err := v.Back(token); err == api.ErrToken {
			list = append(list, token)
		}
	}
	if len(list) < 20 {
		t.Fatalf("only %d tokens are wrong", len(list))
	}
	return list
}

// The Answers of approved and of reversed posts, in the first place and in the last one.
func TestAnswersOfStates(t *testing.T) {
	s := busy(t, someone)
	with := func(answer string, state, at int) []byte {
		return s.changed(func(s *sketch) { s.posts[at].Answer, s.posts[at].State = answer, state }).bytes()
	}
	everywhere := func(check func(t *testing.T, b []byte), answer string) {
		t.Helper()
		for _, state := range []int{approved, reversed} {
			check(t, with(answer, state, 0))
			check(t, with(answer, state, len(s.posts)-1))
		}
	}
	right := func(answer string) {
		t.Helper()
		everywhere(func(t *testing.T, b []byte) { t.Helper(); someone.loads(t, b) }, answer)
	}
	wrong := func(answer string) {
		t.Helper()
		everywhere(func(t *testing.T, b []byte) { t.Helper(); someone.doesNotLoad(t, b) }, answer)
	}
	from := samples.New(247)
	for version := 1; version <= 3; version++ {
		for n := 16; n <= 19; n++ {
			right(fmt.Sprintf("00 %s 7 3", someone.token(t, version, from.Card(n))))
		}
		for _, token := range strangers(t, someone, version) {
			wrong(fmt.Sprintf("00 %s 7 3", token))
		}
	}
	for _, version := range []int{4, 5, 255} {
		wrong(fmt.Sprintf("00 %s 7 3", someone.token(t, version, visa)))
	}
	token := someone.token(t, 1, visa)
	for _, target := range []int{1, 2, 9, 10, 98, 99} {
		right(fmt.Sprintf("00 %s %d 3", token, target))
	}
	for _, tick := range []int{0, 1, 10, 1 << 32, maxTick - 1, maxTick} {
		right(fmt.Sprintf("00 %s 7 %d", token, tick))
	}
	for _, target := range outside(1, 99) {
		wrong(fmt.Sprintf("00 %s %d 3", token, target))
	}
	for _, tick := range outside(0, maxTick) {
		wrong(fmt.Sprintf("00 %s 7 %d", token, tick))
	}
	for _, number := range []string{"", "x", "07", "007", "00", "+7", "-7", "-0", "7.0", "7x", "x7", "0x7", "７", "7\n", "\t7", "1e1", "18446744073709551623", strings.Repeat("0", 100) + "7"} {
		wrong(fmt.Sprintf("00 %s %s 3", token, number))
		wrong(fmt.Sprintf("00 %s 7 %s", token, number))
	}
	shaped := token[:16]
	for _, bad := range []string{"", "x", visa, shaped, shaped + ".", shaped + ".0", shaped + ".01", shaped + ".001", shaped + ".256", shaped + ".+1", " " + token, token + ".1", shaped[1:] + ".1", "0000" + shaped + ".1", shaped + ",1"} {
		wrong(fmt.Sprintf("00 %s 7 3", bad))
	}
	for _, code := range []string{"", "0", "000", "01", "10", "12", "94", "96", "x", " 00", "00 00", "OK"} {
		wrong(fmt.Sprintf("%s %s 7 3", code, token))
	}
	for _, answer := range []string{"", " ", "   ", "    ", "00", "00 " + token, "00 " + token + " 7", "00 " + token + " 7 ", "00 " + token + " 7 3 ", " 00 " + token + " 7 3", "00 " + token + " 7 3 1",
		"00  " + token + " 7 3", "00 " + token + "  7 3", "00 " + token + " 7  3", "00\t" + token + " 7 3", "00" + token + " 7 3", "00 " + token + ",7,3", "00 7 3 " + token, token + " 7 3", "00 " + token + " 7 3\n", strings.Repeat(" ", 256)} {
		wrong(answer)
	}
}

// A post keeps whatever key it has: it needn't be that of a request.
func TestKeysOfStates(t *testing.T) {
	s := busy(t, someone)
	for _, key := range []string{"a", "\x00", "\xff", " ", "000001TERM0002", strings.Repeat("é", 20)} {
		someone.loads(t, s.changed(func(s *sketch) { s.posts[1].Key = key }).bytes())
	}
}

// A State is that of its owner: of another one's tokens, most have no card number.
func TestStatesOfOthers(t *testing.T) {
	from := samples.New(248)
	refusals := 0
	for range 20 {
		o, other := anyone(from), anyone(from)
		b := busy(t, o).bytes()
		if x, err := Load(other.master, other.number, b); err != api.OK {
			refusals++
			if x != nil || err != api.ErrState {
				t.Fatalf("Load: %v, %d", x, err)
			}
		}
	}
	if refusals < 15 {
		t.Errorf("only %d of 20 were refused", refusals)
	}
}

// Whatever bytes there are: a tenant that is loaded has them as its State.
func TestLoadOfSpoiltStates(t *testing.T) {
	from := samples.New(249)
	b := busy(t, someone).bytes()
	loaded := 0
	for range 6000 {
		spoilt := bytes.Clone(b)
		for range 1 + from.Below(2) {
			spoilt[from.Below(len(spoilt))] ^= byte(1 + from.Below(255))
		}
		x, err := Load(someone.master, someone.number, spoilt)
		switch {
		case err == api.OK && bytes.Equal(x.State(), spoilt):
			loaded++
		case err != api.ErrState || x != nil:
			t.Fatalf("Load(% x): %v, %d", spoilt, x, err)
		}
	}
	if loaded < 100 {
		t.Errorf("only %d were loaded", loaded)
	}
	for range 3000 {
		wild := from.Bytes(from.Below(300))
		someone.doesNotLoad(t, wild)
	}
}
