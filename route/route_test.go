package route

import (
	"fmt"
	"slices"
	"strings"
	"testing"
	"unsafe"

	"moneyer/api"
	"moneyer/samples"
)

// table returns one with some routes, which Put has to take.
func table(t *testing.T, routes ...api.Route) *Table {
	t.Helper()
	x := New()
	for _, r := range routes {
		puts(t, x, r.Prefix, r.Target)
	}
	return x
}

// full returns a table that has 24 routes.
func full(t *testing.T) *Table {
	t.Helper()
	x := New()
	for i := range 24 {
		puts(t, x, fmt.Sprint(100+i), 1+i)
	}
	return x
}

// puts asks Put to take a route.
func puts(t *testing.T, x *Table, prefix string, target int) {
	t.Helper()
	if err := x.Put(prefix, target); err != api.OK {
		t.Fatalf("Put(%q, %d): %d", prefix, target, err)
	}
}

// notPut asks Put for an error, after which the table is the same.
func notPut(t *testing.T, x *Table, prefix string, target int, want api.Errno) {
	t.Helper()
	before := x.List()
	if err := x.Put(prefix, target); err != want {
		t.Fatalf("Put(%.60q, %d): %d; want %d", prefix, target, err, want)
	}
	lists(t, x, before)
}

// drops asks Drop to remove a route.
func drops(t *testing.T, x *Table, prefix string) {
	t.Helper()
	if err := x.Drop(prefix); err != api.OK {
		t.Fatalf("Drop(%q): %d", prefix, err)
	}
}

// notDropped asks Drop for an error, after which the table is the same.
func notDropped(t *testing.T, x *Table, prefix string) {
	t.Helper()
	before := x.List()
	if err := x.Drop(prefix); err != api.ErrNone {
		t.Fatalf("Drop(%.60q): %d", prefix, err)
	}
	lists(t, x, before)
}

// finds asks Find for a target; one of 0 stands for none.
func finds(t *testing.T, x *Table, s string, want int) {
	t.Helper()
	if target, found := x.Find(s); target != want || found != (want > 0) {
		t.Fatalf("Find(%.60q): %d, %t; want %d", s, target, found, want)
	}
}

// lists asks List for some routes, in their order.
func lists(t *testing.T, x *Table, want []api.Route) {
	t.Helper()
	if got := x.List(); !slices.Equal(got, want) {
		t.Fatalf("List: %v; want %v", got, want)
	}
}

// wrongPrefixes are those that no route has.
func wrongPrefixes() []string {
	wrong := []string{
		"", "x", " ", "*", ".", "+", "-", "\x00", "/", ":", "+1", "-1", "1.", "1,0", "0x1", "1e1", "1_0", " 4", "4 ", "4\n", "4\x00",
		"411111******1111", "4-5", "４", "\u0664", "4\u0664", "é", "\xff",
		"123456789", "000000000", "0123456789", "4111111111111111", "9223372036854775808", "12345678x", "12345678\x00",
		strings.Repeat("4", 256), strings.Repeat("4", 256+4), strings.Repeat("4", 999), strings.Repeat("4", 1000), strings.Repeat("4", 1<<20), strings.Repeat("x", 1<<20),
	}
	for n := 1; n <= 9; n++ {
		for at := range n {
			for _, c := range []byte{0, ' ', '*', '+', '-', '.', '/', ':', 'A', 'x', '4' | 0x80, 0xff} {
				s := []byte(strings.Repeat("4", n))
				s[at] = c
				wrong = append(wrong, string(s))
			}
		}
	}
	return wrong
}

// wrongTargets are those that no route has.
func wrongTargets() []int {
	wrong := []int{api.MinInt, api.MinInt + 1, api.MinInt + 5, -1 << 32, -100, -99, 1<<7 + 5, 1<<8 + 5, 1<<16 + 5, 1<<32 + 5, api.MaxInt - 1, api.MaxInt}
	for n := range 200 {
		wrong = append(wrong, -n, 100+n)
	}
	return wrong
}

// P15.1: New, Put and Drop.

func TestNew(t *testing.T) {
	x := New()
	lists(t, x, nil)
	for _, s := range []string{"", "0", "4", "4111", "12345678", "4111111111111111", "x"} {
		finds(t, x, s, 0)
		notDropped(t, x, s)
	}
}

func TestTablesHaveTheirOwnRoutes(t *testing.T) {
	x, other := New(), New()
	puts(t, x, "4", 1)
	lists(t, other, nil)
	puts(t, other, "4", 2)
	puts(t, other, "5", 3)
	drops(t, other, "5")
	lists(t, x, []api.Route{{Prefix: "4", Target: 1}})
	drops(t, x, "4")
	lists(t, other, []api.Route{{Prefix: "4", Target: 2}})
}

func TestPutTakesAllLengthsAndTargets(t *testing.T) {
	from := samples.New(226)
	for n := 1; n <= 8; n++ {
		for target := 1; target <= 99; target++ {
			for _, prefix := range []string{from.Digits(n), strings.Repeat("0", n), strings.Repeat("9", n)} {
				x := table(t, api.Route{Prefix: prefix, Target: target})
				lists(t, x, []api.Route{{Prefix: prefix, Target: target}})
				finds(t, x, prefix, target)
			}
		}
	}
}

func TestPutRefusesWhatIsNotValid(t *testing.T) {
	for _, x := range []*Table{New(), table(t, api.Route{Prefix: "4", Target: 7}), full(t)} {
		for _, prefix := range wrongPrefixes() {
			for _, target := range []int{1, 99, 0, 100} {
				notPut(t, x, prefix, target, api.ErrArg)
			}
		}
		for _, target := range wrongTargets() {
			for _, prefix := range []string{"4", "5", "100", "123", "12345678", "00000000"} {
				notPut(t, x, prefix, target, api.ErrArg)
			}
		}
	}
}

// Zeros ahead make another prefix.
func TestPrefixesOfTheSameNumber(t *testing.T) {
	x := New()
	var want []api.Route
	for n := 1; n <= 8; n++ {
		puts(t, x, strings.Repeat("0", n), n)
		want = append(want, api.Route{Prefix: strings.Repeat("0", n), Target: n})
	}
	for n := 1; n <= 7; n++ {
		puts(t, x, strings.Repeat("0", n)+"4", 10+n)
	}
	for n := 7; n >= 1; n-- {
		want = append(want, api.Route{Prefix: strings.Repeat("0", n) + "4", Target: 10 + n})
	}
	lists(t, x, want)
}

func TestPutAgainSetsTheTarget(t *testing.T) {
	x := table(t, api.Route{Prefix: "4", Target: 1}, api.Route{Prefix: "41", Target: 2})
	for _, target := range []int{1, 5, 99, 1, 2} {
		puts(t, x, "4", target)
		lists(t, x, []api.Route{{Prefix: "4", Target: target}, {Prefix: "41", Target: 2}})
		finds(t, x, "42", target)
	}
}

func TestAFullTable(t *testing.T) {
	x := full(t)
	for _, prefix := range []string{"0", "1", "4", "10", "1000", "099", "124", "0100", "12345678"} {
		notPut(t, x, prefix, 1, api.ErrFull)
		notPut(t, x, prefix, 99, api.ErrFull)
	}
	for i := range 24 {
		puts(t, x, fmt.Sprint(100+i), 99-i)
	}
	for i := range 24 {
		finds(t, x, fmt.Sprint(100+i), 99-i)
		// One route less makes room for exactly one.
		drops(t, x, fmt.Sprint(100+i))
		puts(t, x, fmt.Sprint(200+i), 1+i)
		notPut(t, x, fmt.Sprint(100+i), 1, api.ErrFull)
	}
	for i := range 24 {
		finds(t, x, fmt.Sprint(200+i), 1+i)
	}
}

func TestDrop(t *testing.T) {
	x := table(t, api.Route{Prefix: "4", Target: 1}, api.Route{Prefix: "41", Target: 2}, api.Route{Prefix: "411", Target: 3}, api.Route{Prefix: "42", Target: 4})
	drops(t, x, "41")
	lists(t, x, []api.Route{{Prefix: "4", Target: 1}, {Prefix: "411", Target: 3}, {Prefix: "42", Target: 4}})
	notDropped(t, x, "41")
	finds(t, x, "412", 1)
	finds(t, x, "411", 3)
	drops(t, x, "4")
	finds(t, x, "412", 0)
	finds(t, x, "411", 3)
	finds(t, x, "42", 4)
	drops(t, x, "42")
	drops(t, x, "411")
	lists(t, x, nil)
	notDropped(t, x, "411")
	puts(t, x, "41", 9)
	lists(t, x, []api.Route{{Prefix: "41", Target: 9}})
}

// A string that is no prefix has no route.
func TestDropOfNone(t *testing.T) {
	for _, x := range []*Table{New(), table(t, api.Route{Prefix: "4", Target: 7}, api.Route{Prefix: "444", Target: 8}), full(t)} {
		for _, s := range append(wrongPrefixes(), "0", "04", "40", "44", "4444", "1", "10", "1000", "124", "12345678") {
			notDropped(t, x, s)
		}
	}
}

// P15.2: Find and List.

func TestFindTakesTheLongestPrefix(t *testing.T) {
	x := table(t,
		api.Route{Prefix: "4", Target: 1},
		api.Route{Prefix: "4111", Target: 2},
		api.Route{Prefix: "41", Target: 3},
		api.Route{Prefix: "41111111", Target: 99},
		api.Route{Prefix: "51", Target: 5},
		api.Route{Prefix: "0", Target: 6},
		api.Route{Prefix: "000", Target: 7},
	)
	for s, want := range map[string]int{
		"4": 1, "40": 1, "4011111111111111": 1, "42": 1,
		"41": 3, "410": 3, "411": 3, "4101111111111111": 3, "411x": 3,
		"4111": 2, "41111": 2, "4111111": 2, "41111110": 2, "4111-1111-1111-1111": 2,
		"41111111": 99, "411111111": 99, "4111111111111111": 99, "41111111x": 99, "41111111" + strings.Repeat("\xff", 1<<20): 99,
		"51": 5, "510": 5, "51\x00": 5,
		"0": 6, "00": 6, "001": 6, "0x00": 6, "000": 7, "0000": 7, "00000000": 7, "000000000": 7,
		"": 0, "5": 0, "52": 0, "1": 0, "9": 0, "14111": 0, "151": 0, "x": 0, " 4": 0, "\x004": 0, "+4": 0, "-4": 0, "５１": 0, "\xb4": 0, "5 1": 0,
		strings.Repeat("9", 1<<20): 0,
	} {
		finds(t, x, s, want)
	}
}

// Any bytes may follow a prefix, and no others may stand in its place.
func TestFindOfAnyBytes(t *testing.T) {
	x := table(t, api.Route{Prefix: "4", Target: 1}, api.Route{Prefix: "47", Target: 2}, api.Route{Prefix: "4777", Target: 3})
	for c := range 256 {
		one := string([]byte{byte(c)})
		want := map[string]int{one: 0, one + "7": 0, "4" + one: 1, "4" + one + "77": 1, "47" + one: 2, "47" + one + "7": 2, "4777" + one: 3}
		if one == "4" {
			want[one], want[one+"7"] = 1, 2
		}
		if one == "7" {
			want["4"+one], want["4"+one+"77"], want["47"+one+"7"] = 2, 3, 3
		}
		for s, target := range want {
			finds(t, x, s, target)
		}
	}
}

// One prefix of each length: a string begins with those that are no longer than what they have in common.
func TestFindOfEachLength(t *testing.T) {
	const digits = "97531864"
	for kept := range 1 << 8 {
		x := New()
		for n := 1; n <= 8; n++ {
			if kept>>(n-1)&1 == 1 {
				puts(t, x, digits[:n], 10*n)
			}
		}
		for common := range 9 {
			want := 0
			for n := 1; n <= common; n++ {
				if kept>>(n-1)&1 == 1 {
					want = 10 * n
				}
			}
			for _, behind := range []string{"", "0", "00000000000", "x", "\x00"} {
				finds(t, x, digits[:common]+behind, want)
			}
		}
	}
}

func TestListIsOrderedByBytes(t *testing.T) {
	from := samples.New(227)
	want := []api.Route{{Prefix: "0", Target: 9}, {Prefix: "00", Target: 8}, {Prefix: "007", Target: 5}, {Prefix: "01", Target: 1}, {Prefix: "1", Target: 99}, {Prefix: "10", Target: 2}, {Prefix: "12345678", Target: 3}, {Prefix: "2", Target: 2}, {Prefix: "39", Target: 7}, {Prefix: "4", Target: 9}, {Prefix: "41", Target: 1}, {Prefix: "4111", Target: 1}, {Prefix: "42", Target: 6}, {Prefix: "99999999", Target: 4}}
	for range 300 {
		routes := slices.Clone(want)
		for i := range routes {
			j := i + from.Below(len(routes)-i)
			routes[i], routes[j] = routes[j], routes[i]
		}
		x := table(t, routes...)
		for range 5 {
			lists(t, x, want)
		}
	}
}

// slowFind follows the document's words.
func slowFind(routes []api.Route, s string) int {
	target, longest := 0, 0
	for _, r := range routes {
		if strings.HasPrefix(s, r.Prefix) && len(r.Prefix) > longest {
			target, longest = r.Target, len(r.Prefix)
		}
	}
	return target
}

// place returns where the route of a prefix stands, or -1 if there is none.
func place(routes []api.Route, prefix string) int {
	return slices.IndexFunc(routes, func(r api.Route) bool { return r.Prefix == prefix })
}

// has tells whether there is a route of a prefix.
func has(routes []api.Route, prefix string) bool {
	return place(routes, prefix) >= 0
}

// few yields strings of few different digits, so that they have prefixes in common; now and then another byte is among them.
func few(from *samples.Source, most int) string {
	b := make([]byte, from.Below(most+1))
	for i := range b {
		b[i] = "012"[from.Below(3)]
		if from.Below(60) == 0 {
			b[i] = byte(from.Below(256))
		}
	}
	return string(b)
}

// slowPut follows the document's words.
func slowPut(routes []api.Route, prefix string, target int) ([]api.Route, api.Errno) {
	if len(prefix) < 1 || len(prefix) > 8 || strings.Trim(prefix, "0123456789") != "" || target < 1 || target > 99 {
		return routes, api.ErrArg
	}
	if at := place(routes, prefix); at >= 0 {
		routes[at].Target = target
		return routes, api.OK
	}
	if len(routes) == 24 {
		return routes, api.ErrFull
	}
	return append(routes, api.Route{Prefix: prefix, Target: target}), api.OK
}

// Random calls, against a list that is searched from its beginning to its end.
func TestRandomCalls(t *testing.T) {
	from := samples.New(228)
	counts := map[api.Errno]int{}
	for range 40 {
		x := New()
		var routes []api.Route
		drop := 1 + from.Below(6) // of twelve calls
		for range 400 {
			prefix, target := few(from, 9), from.Below(102)
			want := api.OK
			if from.Below(12) < drop {
				if at := place(routes, prefix); at >= 0 {
					routes = slices.Delete(routes, at, at+1)
				} else {
					want = api.ErrNone
				}
				if err := x.Drop(prefix); err != want {
					t.Fatalf("Drop(%q): %d; want %d", prefix, err, want)
				}
			} else {
				routes, want = slowPut(routes, prefix, target)
				if err := x.Put(prefix, target); err != want {
					t.Fatalf("Put(%q, %d): %d; want %d", prefix, target, err, want)
				}
			}
			counts[want]++
			slices.SortFunc(routes, func(a, b api.Route) int { return strings.Compare(a.Prefix, b.Prefix) })
			lists(t, x, routes)
			for range 10 {
				s := few(from, 12)
				finds(t, x, s, slowFind(routes, s))
			}
		}
	}
	for _, err := range []api.Errno{api.OK, api.ErrArg, api.ErrFull, api.ErrNone} {
		if counts[err] < 100 {
			t.Errorf("only %d calls answered %d", counts[err], err)
		}
	}
}

// P15.3: arguments and results.

// lent returns a string in memory that can be overwritten.
func lent(s string) (string, []byte) {
	b := []byte(s)
	return unsafe.String(&b[0], len(b)), b
}

// Of a prefix that the table has, too.
func TestStringsAreNeitherModifiedNorRetained(t *testing.T) {
	from := samples.New(229)
	for n := 1; n <= 8; n++ {
		s := from.Digits(n)
		x := New()
		for target := 1; target <= 3; target++ {
			argument, memory := lent(s)
			puts(t, x, argument, target)
			if argument != s {
				t.Fatalf("Put made %q of %q", argument, s)
			}
			samples.Spoil(memory)
			lists(t, x, []api.Route{{Prefix: s, Target: target}})
			finds(t, x, s, target)
		}
		argument, memory := lent(s + "x")
		finds(t, x, argument, 3)
		notDropped(t, x, argument)
		drops(t, x, argument[:n])
		if argument != s+"x" {
			t.Fatalf("%q became %q", s+"x", argument)
		}
		samples.Spoil(memory)
		lists(t, x, nil)
	}
}

func TestListIsNewMemory(t *testing.T) {
	x := full(t)
	first, second := x.List(), x.List()
	for i := range first {
		if unsafe.StringData(first[i].Prefix) == unsafe.StringData(second[i].Prefix) {
			t.Errorf("two results share the memory of %q", first[i].Prefix)
		}
	}
	for prefix := range x.targets {
		if i := place(first, prefix); unsafe.StringData(first[i].Prefix) == unsafe.StringData(prefix) {
			t.Errorf("a result shares the memory of %q with the table", prefix)
		}
	}
	want := slices.Clone(second)
	first = first[:cap(first)]
	for i := range first {
		first[i] = api.Route{Prefix: "9", Target: 99}
	}
	if !slices.Equal(second, want) {
		t.Errorf("two results share memory: %v", second)
	}
	lists(t, x, want)
	finds(t, x, "9", 0)
}

// A list tells the routes at its time.
func TestListsStayAsTheyAre(t *testing.T) {
	x := table(t, api.Route{Prefix: "4", Target: 1}, api.Route{Prefix: "5", Target: 2})
	list := x.List()
	puts(t, x, "4", 9)
	puts(t, x, "3", 8)
	drops(t, x, "5")
	if want := []api.Route{{Prefix: "4", Target: 1}, {Prefix: "5", Target: 2}}; !slices.Equal(list, want) {
		t.Errorf("the list became %v", list)
	}
}

// P15.4: theorems.

// Another order, other targets before, and routes that are dropped again make no difference.
func TestFindDependsOnListAlone(t *testing.T) {
	from := samples.New(230)
	for range 300 {
		x := New()
		for range 1 + from.Below(40) {
			x.Put(few(from, 5), 1+from.Below(99))
		}
		list := x.List()
		other := New()
		for i := range list {
			r := list[len(list)-1-i]
			if extra := few(from, 5); other.Put(extra, 1+from.Below(99)) == api.OK && !has(list, extra) {
				drops(t, other, extra)
			}
			puts(t, other, r.Prefix, 1+from.Below(99))
			puts(t, other, r.Prefix, r.Target)
		}
		// What was tried in between may have set targets of these.
		for _, r := range list {
			puts(t, other, r.Prefix, r.Target)
		}
		lists(t, other, list)
		for range 100 {
			s := few(from, 10)
			target, _ := x.Find(s)
			finds(t, other, s, target)
		}
	}
}

func TestLongerPrefixesHaveNoInfluenceOnOtherStrings(t *testing.T) {
	from := samples.New(231)
	for range 300 {
		x := New()
		for range 1 + from.Below(20) {
			x.Put(few(from, 4), 1+from.Below(99))
		}
		for range 20 {
			s, longer := few(from, 8), from.Digits(1+from.Below(8))
			if strings.HasPrefix(s, longer) || has(x.List(), longer) {
				continue
			}
			target, _ := x.Find(s)
			puts(t, x, longer, 1+from.Below(99))
			finds(t, x, s, target)
			drops(t, x, longer)
			finds(t, x, s, target)
		}
	}
}

func TestPutAndDropRestoreTheTable(t *testing.T) {
	from := samples.New(232)
	x := New()
	for x.Put(few(from, 6), 1+from.Below(99)) != api.ErrFull {
		list := x.List()
		for range 50 {
			prefix := from.Digits(1 + from.Below(8))
			if has(list, prefix) || len(list) == 24 {
				continue
			}
			puts(t, x, prefix, 1+from.Below(99))
			if len(x.List()) != len(list)+1 {
				t.Fatalf("List: %v", x.List())
			}
			drops(t, x, prefix)
			lists(t, x, list)
			notDropped(t, x, prefix)
			s := few(from, 10)
			finds(t, x, s, slowFind(list, s))
		}
	}
}
