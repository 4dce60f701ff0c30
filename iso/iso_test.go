package iso

import (
	"bytes"
	"encoding/hex"
	"fmt"
	"regexp"
	"slices"
	"strconv"
	"strings"
	"sync"
	"testing"
	"unsafe"

	"moneyer/api"
	"moneyer/samples"
)

// The table of the fields as the document has it: a number, then a length.
const (
	listDigits = "3: 6; 4: 12; 7: 10; 11: 6; 12: 6; 13: 4; 14: 4; 18: 4; 22: 3; 25: 2; 49: 3; 70: 3; 90: 42"
	listUpTo   = "2: 19; 32: 11"
	listText   = "37: 12; 38: 6; 39: 2; 41: 8; 42: 15; 95: 42"
	listTextUp = "48: 999; 54: 120; 102: 28"
	listBytes  = "52: 8"
)

// row is a field of the table.
type row struct {
	n, kind, length int
}

// counted tells whether values have a count ahead of them.
func (r row) counted() bool {
	return r.kind == api.KindUpTo || r.kind == api.KindTextUp
}

// rows returns the table, by increasing numbers.
func rows() []row {
	var list []row
	for kind, text := range map[int]string{
		api.KindDigits: listDigits, api.KindUpTo: listUpTo, api.KindText: listText, api.KindTextUp: listTextUp, api.KindBytes: listBytes,
	} {
		for _, entry := range strings.Split(text, "; ") {
			n, length, _ := strings.Cut(entry, ": ")
			list = append(list, row{n: number(n), kind: kind, length: number(length)})
		}
	}
	slices.SortFunc(list, func(a, b row) int { return a.n - b.n })
	return list
}

// byNumber returns the table, by numbers.
var byNumber = sync.OnceValue(func() map[int]row {
	m := map[int]row{}
	for _, r := range rows() {
		m[r.n] = r
	}
	return m
})

func number(text string) int {
	n, err := strconv.Atoi(text)
	if err != nil {
		panic(err)
	}
	return n
}

// noFields are numbers that no field has.
func noFields() []int {
	list := []int{api.MinInt, api.MinInt + 2, -1 << 32, -2, -1, api.MaxInt, api.MaxInt - 1, 1<<32 + 2, 1<<32 + 3, 1<<16 + 3, 256 + 2, 256 + 3, 128 + 2}
	table := byNumber()
	for n := range 300 {
		if _, is := table[n]; !is {
			list = append(list, n)
		}
	}
	return list
}

// The signs of digits and of characters.
const allDigits = "0123456789"

func allCharacters() string {
	var b []byte
	for c := byte(32); c <= 126; c++ {
		b = append(b, c)
	}
	return string(b)
}

// value yields a value for a field, of n bytes.
func (r row) value(from *samples.Source, n int) string {
	if r.kind == api.KindBytes {
		return string(from.Bytes(n))
	}
	if r.kind == api.KindDigits || r.kind == api.KindUpTo {
		return from.Digits(n)
	}
	signs := allCharacters()
	b := make([]byte, n)
	for i := range b {
		b[i] = signs[from.Below(len(signs))]
	}
	return string(b)
}

// lengths are those that a value may have, the least, the greatest and some between them.
func (r row) lengths() []int {
	if !r.counted() {
		return []int{r.length}
	}
	var list []int
	for _, n := range []int{1, 2, 3, 9, 10, 11, 18, 19, 27, 28, 98, 99, 100, 101, 119, 120, 255, 256, 500, 998, 999} {
		if n <= r.length {
			list = append(list, n)
		}
	}
	return list
}

// valid yields a valid message with some fields.
func valid(from *samples.Source) api.Message {
	m := api.Message{Type: from.Digits(4)}
	share := 1 + from.Below(12)
	for _, r := range rows() {
		if from.Below(12) >= share {
			continue
		}
		lengths := r.lengths()
		m.Fields = append(m.Fields, api.Field{N: r.n, Value: r.value(from, lengths[from.Below(len(lengths))])})
	}
	return m
}

// one returns a message with one field.
func one(n int, value string) api.Message {
	return message("0100", n, value)
}

// message returns one of numbers and values in turn.
func message(kind string, fields ...any) api.Message {
	m := api.Message{Type: kind}
	for i := 0; i < len(fields); i += 2 {
		m.Fields = append(m.Fields, api.Field{N: fields[i].(int), Value: fields[i+1].(string)})
	}
	return m
}

// full returns a message with all fields.
func full() api.Message {
	from := samples.New(170)
	m := api.Message{Type: "9876"}
	for _, r := range rows() {
		m.Fields = append(m.Fields, api.Field{N: r.n, Value: r.value(from, r.length)})
	}
	return m
}

func equal(a, b api.Message) bool {
	return a.Type == b.Type && slices.Equal(a.Fields, b.Fields)
}

func zero(m api.Message) bool {
	return m.Type == "" && m.Fields == nil
}

func short(s string) string {
	if len(s) > 200 {
		return fmt.Sprintf("%.200s.. (%d)", s, len(s))
	}
	return s
}

func showMessage(m api.Message) string {
	text := strconv.Quote(m.Type)
	for _, f := range m.Fields {
		text += fmt.Sprintf(", %d %q", f.N, f.Value)
	}
	return short(text)
}

func showBytes(b []byte) string {
	return short(fmt.Sprintf("% x", b))
}

// encodes asks both for a message that is valid.
func encodes(t *testing.T, m api.Message) []byte {
	t.Helper()
	if err := Right(m); err != api.OK {
		t.Errorf("Right(%s): %d", showMessage(m), err)
	}
	b, err := Bytes(m)
	if err != api.OK {
		t.Errorf("Bytes(%s): %d", showMessage(m), err)
	}
	return b
}

// refuses asks both for a message that is not valid.
func refuses(t *testing.T, m api.Message, want api.Errno) {
	t.Helper()
	if err := Right(m); err != want {
		t.Errorf("Right(%s): %d; want %d", showMessage(m), err, want)
	}
	if b, err := Bytes(m); b != nil || err != want {
		t.Errorf("Bytes(%s): %s, %d; want %d", showMessage(m), showBytes(b), err, want)
	}
}

func parses(t *testing.T, b []byte, want api.Message, wantSize int) {
	t.Helper()
	if m, size, err := Parse(b); !equal(m, want) || size != wantSize || err != api.OK {
		t.Errorf("Parse(%s): %s, %d, %d; want %s, %d", showBytes(b), showMessage(m), size, err, showMessage(want), wantSize)
	}
}

func notParsed(t *testing.T, b []byte, want api.Errno) {
	t.Helper()
	if m, size, err := Parse(b); !zero(m) || size != 0 || err != want {
		t.Errorf("Parse(%s): %s, %d, %d; want %d", showBytes(b), showMessage(m), size, err, want)
	}
}

// P12.1: Format.

func TestFormat(t *testing.T) {
	if len(rows()) != 25 {
		t.Fatalf("%d fields", len(rows()))
	}
	for _, r := range rows() {
		if kind, length, is := Format(r.n); kind != r.kind || length != r.length || !is {
			t.Errorf("Format(%d): %d, %d, %v", r.n, kind, length, is)
		}
	}
	for _, n := range noFields() {
		if kind, length, is := Format(n); kind != 0 || length != 0 || is {
			t.Errorf("Format(%d): %d, %d, %v", n, kind, length, is)
		}
	}
}

// P12.2: Right and Bytes.

func TestEncodings(t *testing.T) {
	for _, c := range []struct {
		m    api.Message
		want string
	}{
		{message("0800", 70, "301"), "0800 8000000000000000 0400000000000000 0301"},
		{message("0100", 3, "000000"), "0100 2000000000000000 000000"},
		{message("0100", 2, "123"), "0100 4000000000000000 03 0123"},
		{message("0000"), "0000 0000000000000000"},
		{message("9999"), "9999 0000000000000000"},
		{message("1234", 2, "1"), "1234 4000000000000000 01 01"},
		{message("1234", 2, "12"), "1234 4000000000000000 02 12"},
		{message("1234", 2, "4111111111111111"), "1234 4000000000000000 16 4111111111111111"},
		{message("1234", 2, "1234567890123456789"), "1234 4000000000000000 19 01234567890123456789"},
		{message("1234", 4, "000000000060"), "1234 1000000000000000 000000000060"},
		{message("1234", 22, "051"), "1234 0000040000000000 0051"},
		{message("1234", 32, "7"), "1234 0000000100000000 01 07"},
		{message("1234", 32, "12345678901"), "1234 0000000100000000 11 012345678901"},
		{message("1234", 37, "abcdefghijkl"), "1234 0000000008000000 6162636465666768696a6b6c"},
		{message("1234", 39, "00"), "1234 0000000002000000 3030"},
		{message("1234", 41, "TERM0001"), "1234 0000000000800000 5445524d30303031"},
		{message("1234", 48, "a"), "1234 0000000000010000 0001 61"},
		{message("1234", 48, strings.Repeat("~", 999)), "1234 0000000000010000 0999" + strings.Repeat("7e", 999)},
		{message("1234", 52, "\x00\x01\x7f\x80\xff\xfe \n"), "1234 0000000000001000 00017f80fffe200a"},
		{message("1234", 54, " "), "1234 0000000000000400 0001 20"},
		{message("1234", 54, strings.Repeat(" ", 120)), "1234 0000000000000400 0120" + strings.Repeat("20", 120)},
		{message("1234", 90, "010000000112345678901234567890123456789012"), "1234 8000000000000000 0000004000000000 010000000112345678901234567890123456789012"},
		{message("1234", 102, "x"), "1234 8000000000000000 0000000004000000 01 78"},
		{message("1234", 102, strings.Repeat("x", 28)), "1234 8000000000000000 0000000004000000 28" + strings.Repeat("78", 28)},
		{message("0100", 2, "45", 3, "123456", 49, "978", 70, "001", 102, "yz"), "0100 e000000000008000 0400000004000000 02 45 123456 0978 0001 02 797a"},
	} {
		want := samples.Hex(strings.ReplaceAll(c.want, " ", ""))
		if b := encodes(t, c.m); !bytes.Equal(b, want) {
			t.Errorf("Bytes(%s): %s; want %s", showMessage(c.m), showBytes(b), showBytes(want))
		}
		parses(t, want, c.m, len(want))
	}
}

// slowDigits are packed digits, in hexadecimal digits.
func slowDigits(s string) string {
	return strings.Repeat("0", len(s)%2) + s
}

// slowBytes follows the document's words, for messages that are valid.
func slowBytes(m api.Message) []byte {
	table := byNumber()
	bits := [129]byte{}
	for i := range bits {
		bits[i] = '0'
	}
	values := ""
	for _, f := range m.Fields {
		r := table[f.N]
		bits[f.N] = '1'
		if f.N > 64 {
			bits[1] = '1'
		}
		if r.counted() {
			values += slowDigits(fmt.Sprintf("%0*d", len(strconv.Itoa(r.length)), len(f.Value)))
		}
		if r.kind == api.KindDigits || r.kind == api.KindUpTo {
			values += slowDigits(f.Value)
		} else {
			values += hex.EncodeToString([]byte(f.Value))
		}
	}
	text := m.Type
	for at := 1; at == 1 || at == 65 && bits[1] == '1'; at += 64 {
		word, _ := strconv.ParseUint(string(bits[at:at+64]), 2, 64)
		text += fmt.Sprintf("%016x", word)
	}
	return samples.Hex(text + values)
}

func TestEncodingsOfEveryField(t *testing.T) {
	from := samples.New(171)
	for _, r := range rows() {
		for _, n := range r.lengths() {
			m := message(from.Digits(4), r.n, r.value(from, n))
			if b, want := encodes(t, m), slowBytes(m); !bytes.Equal(b, want) {
				t.Errorf("Bytes(%s): %s; want %s", showMessage(m), showBytes(b), showBytes(want))
			}
		}
	}
	for _, m := range append(validMessages(2000), full()) {
		if b, want := encodes(t, m), slowBytes(m); !bytes.Equal(b, want) {
			t.Errorf("Bytes(%s): %s; want %s", showMessage(m), showBytes(b), showBytes(want))
		}
	}
}

func validMessages(count int) []api.Message {
	from := samples.New(172)
	var list []api.Message
	for range count {
		list = append(list, valid(from))
	}
	return list
}

func TestWrongTypes(t *testing.T) {
	for _, kind := range []string{
		"", "0", "01", "010", "01000", "00000100", "x100", "010x", " 100", "010 ", "0100\n", "+100", "-100", "0/00", "0:00", "\x00100",
		"０１", "010\xff", "0\xb100", "٠١", "0x10", "1e10", "\x01\x00", "\x00\x00\x00\x00",
		strings.Repeat("0", 999), strings.Repeat("0", 1000), strings.Repeat("0", 1<<16+4),
	} {
		refuses(t, message(kind), api.ErrForm)
		refuses(t, message(kind, 3, "000000"), api.ErrForm)
		// The type counts ahead of the fields.
		refuses(t, message(kind, 5, "1"), api.ErrForm)
		refuses(t, message(kind, 2, strings.Repeat("1", 20)), api.ErrForm)
	}
	for at := range 4 {
		for c := range 256 {
			kind := "0210"[:at] + string([]byte{byte(c)}) + "0210"[at+1:]
			if c >= '0' && c <= '9' {
				encodes(t, message(kind, 3, "123456"))
			} else {
				refuses(t, message(kind, 3, "123456"), api.ErrForm)
			}
		}
	}
}

func TestWrongNumbers(t *testing.T) {
	from := samples.New(173)
	for _, n := range noFields() {
		refuses(t, one(n, "1"), api.ErrField)
		refuses(t, one(n, ""), api.ErrField)
		refuses(t, message("0100", 2, "12", n, "123456"), api.ErrField)
		refuses(t, message("0100", n, "123456", 102, "x"), api.ErrField)
		refuses(t, message("0100", 102, "x", n, "1"), api.ErrField)
	}
	for _, a := range rows() {
		for _, b := range rows() {
			m := message("0100", a.n, a.value(from, a.length), b.n, b.value(from, b.length))
			if a.n < b.n {
				encodes(t, m)
			} else {
				refuses(t, m, api.ErrField)
			}
			// The number counts ahead of the value.
			if a.n >= b.n {
				refuses(t, message("0100", a.n, a.value(from, a.length), b.n, strings.Repeat("\x00", 1000)), api.ErrField)
			}
		}
	}
	// Each is greater than the first one, but not than the one ahead of it.
	refuses(t, message("0100", 2, "1", 4, "000000000001", 3, "000000"), api.ErrField)
	refuses(t, message("0100", 2, "1", 4, "000000000001", 4, "000000000001"), api.ErrField)
}

func TestWrongLengths(t *testing.T) {
	from := samples.New(174)
	for _, r := range rows() {
		for n := range 1100 {
			m := one(r.n, r.value(from, n))
			switch {
			case n == r.length || r.counted() && n > 0 && n < r.length:
				encodes(t, m)
			case r.counted() && n > r.length:
				refuses(t, m, api.ErrLong)
			default:
				refuses(t, m, api.ErrForm)
			}
		}
		want := api.ErrForm
		if r.counted() {
			want = api.ErrLong
		}
		for _, n := range []int{256 + r.length, 1000 + r.length, 1<<16 + r.length, 1 << 20} {
			refuses(t, one(r.n, r.value(from, n)), want)
		}
	}
}

func TestEveryByteOfAValue(t *testing.T) {
	from := samples.New(175)
	for _, r := range rows() {
		signs := allCharacters()
		switch r.kind {
		case api.KindDigits, api.KindUpTo:
			signs = allDigits
		case api.KindBytes:
			continue // all of them may stand there
		}
		for _, n := range []int{1, 2, r.length, r.length + 1, 1000} {
			for _, at := range []int{0, n / 2, n - 1} {
				value := []byte(r.value(from, n))
				for c := range 256 {
					value[at] = byte(c)
					m := one(r.n, string(value))
					switch {
					case !strings.Contains(signs, string([]byte{byte(c)})):
						// A wrong byte counts ahead of the length.
						refuses(t, m, api.ErrForm)
					case n == r.length || r.counted() && n < r.length:
						encodes(t, m)
					case r.counted():
						refuses(t, m, api.ErrLong)
					default:
						refuses(t, m, api.ErrForm)
					}
				}
			}
		}
	}
	every := make([]byte, 256)
	for c := range every {
		every[c] = byte(c)
	}
	for part := range slices.Chunk(every, 8) {
		encodes(t, one(52, string(part)))
	}
}

// Signs of more than one byte are none of the characters, whatever their bytes' count.
func TestNoOtherSigns(t *testing.T) {
	for _, c := range []struct {
		n     int
		value string
	}{
		{2, "１２３"},
		{3, "０１"}, // six bytes
		{39, "é"}, // two bytes
		{38, "éàü"},
		{38, "abcdeé"},
		{48, "é"},
		{48, "ok\u2028"},
		{48, "\ufffd"},
		{48, "\xc1\x81"}, // A in more bytes than it needs
		{48, "\xed\xa0\x80"},
		{54, "\t"},
		{54, "a\nb"},
		{102, "\x7f"},
		{102, "\x80"},
	} {
		refuses(t, one(c.n, c.value), api.ErrForm)
	}
}

func TestTheFirstFaultCounts(t *testing.T) {
	long := strings.Repeat("1", 20)
	for _, c := range []struct {
		m    api.Message
		want api.Errno
	}{
		{message("0100", 2, long, 3, "x"), api.ErrLong},
		{message("0100", 2, long, 5, "1"), api.ErrLong},
		{message("0100", 2, "", 5, "1"), api.ErrForm},
		{message("0100", 2, "1", 3, "x", 5, "1"), api.ErrForm},
		{message("0100", 2, "1", 5, "1", 3, "x"), api.ErrField},
		{message("0100", 2, "1", 3, "000000", 32, "123456789012", 39, ""), api.ErrLong},
		{message("0100", 3, "x", 2, long), api.ErrForm},
		{message("0100", 3, "000000", 2, long), api.ErrField},
		{message("0100", 48, strings.Repeat(" ", 1000), 48, " "), api.ErrLong},
		{message("0100", 48, strings.Repeat(" ", 1000)+"\n", 48, " "), api.ErrForm},
	} {
		refuses(t, c.m, c.want)
	}
}

// P12.3: Parse.

var digitsForm = regexp.MustCompile(`\A[0-9]*\z`)

// slowReader follows the document's words on hexadecimal digits; its first error stays.
type slowReader struct {
	text string
	at   int
	err  api.Errno
}

// take yields the hexadecimal digits of so many bytes.
func (r *slowReader) take(size int) string {
	if r.err == api.OK && r.at+2*size > len(r.text) {
		r.err = api.ErrEnd
	}
	if r.err != api.OK {
		return ""
	}
	r.at += 2 * size
	return r.text[r.at-2*size : r.at]
}

func (r *slowReader) digits(count int) string {
	part := r.take((count + 1) / 2)
	if r.err == api.OK && (!digitsForm.MatchString(part) || count%2 == 1 && part[0] != '0') {
		r.err = api.ErrForm
	}
	if r.err != api.OK {
		return ""
	}
	return part[count%2:]
}

func (r *slowReader) count(length int) int {
	text := r.digits(len(strconv.Itoa(length)))
	if r.err != api.OK {
		return 0
	}
	n := number(text)
	if n == 0 {
		r.err = api.ErrForm
	} else if n > length {
		r.err = api.ErrLong
	}
	return n
}

func (r *slowReader) bitmap() string {
	word, _ := strconv.ParseUint("0"+r.take(8), 16, 64)
	return fmt.Sprintf("%064b", word)
}

func slowParse(b []byte) (api.Message, int, api.Errno) {
	table := byNumber()
	r := &slowReader{text: hex.EncodeToString(b)}
	m := api.Message{Type: r.digits(4)}
	bits := r.bitmap()
	if bits[0] == '1' {
		bits += r.bitmap()
		if r.err == api.OK && !strings.Contains(bits[64:], "1") {
			r.err = api.ErrForm
		}
	}
	for n := 2; n <= len(bits); n++ {
		if _, is := table[n]; bits[n-1] == '1' && !is && r.err == api.OK {
			r.err = api.ErrField
		}
	}
	for n := 2; n <= len(bits) && r.err == api.OK; n++ {
		if bits[n-1] == '0' {
			continue
		}
		size := table[n].length
		if table[n].counted() {
			size = r.count(size)
		}
		value := ""
		if kind := table[n].kind; kind == api.KindDigits || kind == api.KindUpTo {
			value = r.digits(size)
		} else {
			p, _ := hex.DecodeString(r.take(size))
			value = string(p)
			if r.err == api.OK && kind != api.KindBytes && strings.Trim(value, allCharacters()) != "" {
				r.err = api.ErrForm
			}
		}
		m.Fields = append(m.Fields, api.Field{N: n, Value: value})
	}
	if r.err != api.OK {
		return api.Message{}, 0, r.err
	}
	return m, r.at / 2, api.OK
}

// agrees compares the parsers, and returns the error.
func agrees(t *testing.T, b []byte) api.Errno {
	t.Helper()
	want, size, err := slowParse(b)
	if err != api.OK {
		notParsed(t, b, err)
		return err
	}
	parses(t, b, want, size)
	again, err := Bytes(want)
	if !bytes.Equal(again, b[:size]) || err != api.OK {
		t.Errorf("Bytes of Parse(%s): %s, %d", showBytes(b), showBytes(again), err)
	}
	return api.OK
}

func TestNotParsed(t *testing.T) {
	for text, want := range map[string]api.Errno{
		"":   api.ErrEnd,
		"01": api.ErrEnd,
		"ff": api.ErrEnd, // a wrong half as well
		// The type.
		"a100":                  api.ErrForm, // ahead of the bitmap that is missing
		"010f":                  api.ErrForm,
		"0a00 0000000000000000": api.ErrForm,
		"0100":                  api.ErrEnd,
		// The bitmaps.
		"0100 00000000000000":                       api.ErrEnd,
		"0100 08000000000000":                       api.ErrEnd, // a wrong bit as well
		"0100 8000000000000000":                     api.ErrEnd,
		"0100 8000000000000000 04000000000000":      api.ErrEnd,
		"0100 8800000000000000 04000000000000":      api.ErrEnd, // a wrong bit as well
		"0100 8000000000000000 0000000000000000":    api.ErrForm,
		"0100 8800000000000000 0000000000000000":    api.ErrForm, // a wrong bit as well
		"0100 a000000000000000 0000000000000000":    api.ErrForm,
		"0100 0800000000000000":                     api.ErrField,
		"0100 0800000000000000 ff":                  api.ErrField,
		"0100 0000000000000001":                     api.ErrField, // 64
		"0100 8000000000000000 8000000000000000":    api.ErrField, // 65
		"0100 8000000000000000 0000000000000001":    api.ErrField, // 128
		"0100 2000000000000001 ffffff":              api.ErrField, // ahead of field 3
		"0100 a000000000000000 0000000000000001":    api.ErrField, // ahead of field 3, of which there is nothing
		"0100 c000000000000000 8400000000000000":    api.ErrField,
		"0100 ffffffffffffffff ffffffffffffffff":    api.ErrField,
		"0100 8000000000000000 0400000000000000 03": api.ErrEnd,
		// Digits.
		"0100 2000000000000000":            api.ErrEnd,
		"0100 2000000000000000 0000":       api.ErrEnd,
		"0100 2000000000000000 ffff":       api.ErrEnd, // wrong halves as well
		"0100 2000000000000000 0000a0":     api.ErrForm,
		"0100 2000000000000000 00000a":     api.ErrForm,
		"0100 2000000000000000 f00000":     api.ErrForm,
		"0100 0000040000000000 1051":       api.ErrForm, // the half ahead of three digits
		"0100 0000040000000000 f051":       api.ErrForm,
		"0100 3000000000000000 00000a":     api.ErrForm, // ahead of field 4, of which there is nothing
		"0100 3000000000000000 000000":     api.ErrEnd,
		"0100 6000000000000000 01 01 0000": api.ErrEnd,
		// Counts of one byte.
		"0100 4000000000000000":                     api.ErrEnd,
		"0100 4000000000000000 00":                  api.ErrForm,
		"0100 4000000000000000 0a":                  api.ErrForm,
		"0100 4000000000000000 a0":                  api.ErrForm,
		"0100 4000000000000000 1f":                  api.ErrForm,
		"0100 4000000000000000 20":                  api.ErrLong, // ahead of the value that is missing
		"0100 4000000000000000 99":                  api.ErrLong,
		"0100 4000000000000000 20 ffff":             api.ErrLong,
		"0100 4000000000000000 19":                  api.ErrEnd,
		"0100 4000000000000000 03 01":               api.ErrEnd,
		"0100 4000000000000000 03 11":               api.ErrEnd, // a wrong half as well
		"0100 4000000000000000 03 1123":             api.ErrForm,
		"0100 4000000000000000 01 10":               api.ErrForm,
		"0100 4000000000000000 02 1a":               api.ErrForm,
		"0100 0000000100000000 12":                  api.ErrLong,
		"0100 0000000100000000 11":                  api.ErrEnd,
		"0100 0000000100000000 00":                  api.ErrForm,
		"0100 8000000000000000 0000000004000000 29": api.ErrLong,
		"0100 8000000000000000 0000000004000000 28": api.ErrEnd,
		"0100 8000000000000000 0000000004000000 00": api.ErrForm,
		// Counts of two bytes.
		"0100 0000000000010000":                                  api.ErrEnd,
		"0100 0000000000010000 00":                               api.ErrEnd,
		"0100 0000000000010000 ff":                               api.ErrEnd, // wrong halves as well
		"0100 0000000000010000 0000":                             api.ErrForm,
		"0100 0000000000010000 1001":                             api.ErrForm,
		"0100 0000000000010000 1000":                             api.ErrForm,
		"0100 0000000000010000 000a":                             api.ErrForm,
		"0100 0000000000010000 0a01":                             api.ErrForm,
		"0100 0000000000010000 0999":                             api.ErrEnd,
		"0100 0000000000010000 0002 61":                          api.ErrEnd,
		"0100 0000000000010000 0002 07":                          api.ErrEnd, // no character as well
		"0100 0000000000000400 0121":                             api.ErrLong,
		"0100 0000000000000400 0999":                             api.ErrLong,
		"0100 0000000000000400 0120":                             api.ErrEnd,
		"0100 0000000000000400 0121" + strings.Repeat("20", 121): api.ErrLong,
		"0100 0000000000000400 0120" + strings.Repeat("20", 119): api.ErrEnd,
		"0100 0000000000000400 1120" + strings.Repeat("20", 120): api.ErrForm,
		// Characters.
		"0100 0000000002000000 30":                         api.ErrEnd,
		"0100 0000000002000000 ff":                         api.ErrEnd, // no character as well
		"0100 0000000002000000 301f":                       api.ErrForm,
		"0100 0000000002000000 7f30":                       api.ErrForm,
		"0100 0000000002000000 c3a9":                       api.ErrForm,
		"0100 0000000000010000 0001 0a":                    api.ErrForm,
		"0100 0000000000010000 0001 80":                    api.ErrForm,
		"0100 8000000000000000 0000000004000000 02 2000":   api.ErrForm,
		"0100 0000000002800000 0030 5445":                  api.ErrForm, // ahead of field 41, which ends too early
		"0100 0000000000001000 00000000000000":             api.ErrEnd,
		"0100 8000000000000000 0000004000000000 01":        api.ErrEnd,
		"0100 8000000000000000 0000000200000000 20":        api.ErrEnd,
		"0100 0000000000001400 ffffffffffffffff 0001 0001": api.ErrForm,
	} {
		text = strings.ReplaceAll(text, " ", "")
		notParsed(t, samples.Hex(text), want)
	}
}

// parts returns how many bytes of a valid message's encoding lie ahead of each field, and how many in all.
func parts(m api.Message) []int {
	var list []int
	at := len(slowBytes(api.Message{Type: m.Type}))
	if len(m.Fields) > 0 && m.Fields[len(m.Fields)-1].N > 64 {
		at += 8
	}
	for _, f := range m.Fields {
		list = append(list, at)
		at += len(slowBytes(one(f.N, f.Value))) - 10
		if f.N > 64 {
			at -= 8
		}
	}
	return append(list, at)
}

// A fault of one field counts behind all of those ahead of it, and ahead of those behind it.
func TestTheFirstFaultOfBytesCounts(t *testing.T) {
	m := full()
	whole := encodes(t, m)
	starts := parts(m)
	if starts[len(m.Fields)] != len(whole) {
		t.Fatalf("%d of %d bytes", starts[len(m.Fields)], len(whole))
	}
	for i, f := range m.Fields {
		if f.N == 52 {
			continue // no bytes are wrong there
		}
		b := bytes.Clone(whole)
		b[starts[i]] = 0xff
		notParsed(t, b, api.ErrForm)
		for end := range len(b) {
			want := api.ErrEnd
			// The first part of the field is a count, or its value.
			first := starts[i+1]
			if r := byNumber()[f.N]; r.counted() {
				first = starts[i] + (len(strconv.Itoa(r.length))+1)/2
			}
			if end >= first {
				want = api.ErrForm
			}
			notParsed(t, b[:end], want)
		}
	}
}

func TestEveryEndOfBytes(t *testing.T) {
	for _, m := range append(validMessages(150), full()) {
		b := encodes(t, m)
		for end := range len(b) {
			notParsed(t, b[:end], api.ErrEnd)
			notParsed(t, slices.Clip(bytes.Clone(b[:end])), api.ErrEnd)
		}
	}
}

func TestEveryBitmap(t *testing.T) {
	from := samples.New(176)
	behind := from.Bytes(40)
	for n := 1; n <= 128; n++ {
		bits := make([]byte, 16)
		bits[(n-1)/8] = 0x80 >> ((n - 1) % 8)
		b := []byte{1, 0}
		if n > 64 {
			bits[0] |= 0x80
			b = append(b, bits...)
		} else {
			b = append(b, bits[:8]...)
		}
		_, is := byNumber()[n]
		if n == 1 {
			notParsed(t, b, api.ErrEnd)
			notParsed(t, append(b, make([]byte, 8)...), api.ErrForm)
		} else if is {
			notParsed(t, b, api.ErrEnd)
		} else {
			notParsed(t, b, api.ErrField)
			notParsed(t, append(b, behind...), api.ErrField)
		}
	}
	for range 3000 {
		b := []byte{1, 0}
		for range 16 {
			b = append(b, byte(1<<from.Below(8)*from.Below(2)))
		}
		agrees(t, append(b, samples.New(from.Below(100)).Bytes(100)...))
	}
}

func TestEveryByteOfEncodings(t *testing.T) {
	counts := map[api.Errno]int{}
	messages := validMessages(8)
	from := samples.New(177)
	for _, r := range rows() {
		messages = append(messages, one(r.n, r.value(from, r.lengths()[0])), message("0200", r.n, r.value(from, min(r.length, 20))))
	}
	for _, m := range messages {
		b := slowBytes(m)
		for at := range min(len(b), 60) {
			for c := range 256 {
				changed := bytes.Clone(b)
				changed[at] = byte(c)
				counts[agrees(t, changed)]++
			}
		}
	}
	for _, err := range []api.Errno{api.OK, api.ErrEnd, api.ErrForm, api.ErrLong, api.ErrField} {
		if counts[err] < 500 {
			t.Errorf("only %d times error %d", counts[err], err)
		}
	}
}

// Encodings in which several things are wrong.
func TestSpoiledEncodings(t *testing.T) {
	from := samples.New(178)
	counts := map[api.Errno]int{}
	for range 20000 {
		b := slowBytes(valid(from))
		for range 1 + from.Below(3) {
			at := from.Below(len(b))
			switch from.Below(4) {
			case 0:
				b[at] = byte(from.Below(256))
			case 1:
				b[at] ^= 1 << from.Below(8)
			case 2:
				b = slices.Insert(b, at, from.Bytes(1+from.Below(3))...)
			case 3:
				b = b[:max(at, 1)]
			}
		}
		counts[agrees(t, b)]++
	}
	for _, err := range []api.Errno{api.OK, api.ErrEnd, api.ErrForm, api.ErrLong, api.ErrField} {
		if counts[err] < 50 {
			t.Errorf("only %d times error %d", counts[err], err)
		}
	}
	for range 5000 {
		agrees(t, from.Bytes(from.Below(40)))
	}
}

// P12.4: Value and Put.

func has(t *testing.T, m api.Message, n int, want string) {
	t.Helper()
	if value, is := Value(m, n); value != want || !is {
		t.Errorf("Value(%s, %d): %q, %v; want %q", showMessage(m), n, value, is, want)
	}
}

func hasNot(t *testing.T, m api.Message, n int) {
	t.Helper()
	if value, is := Value(m, n); value != "" || is {
		t.Errorf("Value(%s, %d): %q, %v", showMessage(m), n, value, is)
	}
}

func TestValue(t *testing.T) {
	m := message("x", 41, "a", 3, "b", 41, "c", -7, "d", 0, "", 1, "\xff", api.MaxInt, "e", api.MinInt, "f", 3, "g")
	for n, want := range map[int]string{41: "a", 3: "b", -7: "d", 0: "", 1: "\xff", api.MaxInt: "e", api.MinInt: "f"} {
		has(t, m, n, want)
	}
	for _, n := range []int{2, 4, 40, 42, -1, -3, -41, api.MaxInt - 1, api.MinInt + 1, 1<<32 + 3} {
		hasNot(t, m, n)
	}
	for _, m := range []api.Message{{}, message("0100"), {Type: "0100", Fields: []api.Field{}}} {
		for _, n := range []int{0, 1, 2, -1, api.MaxInt, api.MinInt} {
			hasNot(t, m, n)
		}
	}
	for _, f := range full().Fields {
		has(t, full(), f.N, f.Value)
	}
}

func TestPut(t *testing.T) {
	for _, c := range []struct {
		m     api.Message
		n     int
		value string
		want  api.Message
	}{
		{api.Message{}, 3, "a", message("", 3, "a")},
		{api.Message{}, 0, "", message("", 0, "")},
		{message("0100"), 3, "a", message("0100", 3, "a")},
		{message("0100", 3, "a"), 3, "b", message("0100", 3, "b")},
		{message("0100", 3, "a"), 3, "", message("0100", 3, "")},
		{message("0100", 3, "a"), 2, "b", message("0100", 2, "b", 3, "a")},
		{message("0100", 3, "a"), 4, "b", message("0100", 3, "a", 4, "b")},
		{message("0100", 2, "a", 4, "b"), 3, "c", message("0100", 2, "a", 3, "c", 4, "b")},
		{message("0100", 2, "a", 3, "b", 4, "c"), 3, "d", message("0100", 2, "a", 3, "d", 4, "c")},
		// All with that number are removed.
		{message("0100", 3, "a", 3, "b"), 3, "c", message("0100", 3, "c")},
		{message("0100", 3, "a", 3, "b", 3, "c"), 4, "d", message("0100", 3, "a", 3, "b", 3, "c", 4, "d")},
		{message("0100", 3, "a", 4, "b", 3, "c", 5, "d", 3, "e"), 3, "f", message("0100", 3, "f", 4, "b", 5, "d")},
		// It stands before the first greater one, wherever the others are.
		{message("0100", 9, "a", 2, "b", 1, "c"), 3, "d", message("0100", 3, "d", 9, "a", 2, "b", 1, "c")},
		{message("0100", 1, "a", 9, "b", 2, "c", 9, "d"), 3, "e", message("0100", 1, "a", 3, "e", 9, "b", 2, "c", 9, "d")},
		{message("0100", 1, "a", 3, "b", 2, "c", 9, "d"), 3, "e", message("0100", 1, "a", 2, "c", 3, "e", 9, "d")},
		{message("0100", 3, "b", 2, "c", 1, "d"), 3, "e", message("0100", 2, "c", 1, "d", 3, "e")},
		// Whether they are valid doesn't count.
		{message("wrong", 5, "a", -5, "\xff"), -6, "\x00", message("wrong", -6, "\x00", 5, "a", -5, "\xff")},
		{message("", api.MaxInt, "a", api.MinInt, "b"), api.MaxInt, "c", message("", api.MinInt, "b", api.MaxInt, "c")},
		{message("", api.MaxInt, "a", api.MinInt, "b"), api.MinInt, "c", message("", api.MinInt, "c", api.MaxInt, "a")},
	} {
		if m := Put(c.m, c.n, c.value); !equal(m, c.want) {
			t.Errorf("Put(%s, %d, %q): %s; want %s", showMessage(c.m), c.n, c.value, showMessage(m), showMessage(c.want))
		}
	}
}

// P12.5: memory.

func TestBytesAreNewMemory(t *testing.T) {
	for _, m := range append(validMessages(50), full(), message("0100")) {
		want := slowBytes(m)
		samples.Spoil(encodes(t, m))
		second := encodes(t, m)
		samples.Spoil(encodes(t, m))
		if !bytes.Equal(second, want) {
			t.Errorf("Bytes(%s): two results share memory: %s", showMessage(m), showBytes(second))
		}
	}
}

func TestRightAndBytesLeaveTheirArgument(t *testing.T) {
	m := full()
	fields := append(slices.Clone(m.Fields), api.Field{N: 103, Value: "spare"})
	given := api.Message{Type: m.Type, Fields: fields[:len(m.Fields)]}
	b := encodes(t, given)
	Value(given, 3)
	if !equal(given, m) || fields[len(m.Fields)] != (api.Field{N: 103, Value: "spare"}) {
		t.Errorf("the argument became %s", showMessage(given))
	}
	clear(fields)
	if !bytes.Equal(b, slowBytes(m)) {
		t.Error("Bytes kept its argument")
	}
}

func TestParseLeavesItsArgument(t *testing.T) {
	for _, want := range append(validMessages(50), full(), message("0100")) {
		part, whole := samples.Framed(slowBytes(want))
		before := bytes.Clone(whole)
		m, _, _ := Parse(part)
		again, _, _ := Parse(part)
		Parse(part[:len(part)-1])
		if !bytes.Equal(whole, before) {
			t.Fatalf("Parse changed its argument: %s", showBytes(whole))
		}
		samples.Spoil(whole)
		clear(again.Fields[:cap(again.Fields)])
		if !equal(m, want) {
			t.Errorf("Parse kept its argument, or what it returned: %s; want %s", showMessage(m), showMessage(want))
		}
		parses(t, slowBytes(want), want, len(slowBytes(want)))
	}
}

func TestPutLeavesItsArgument(t *testing.T) {
	spare := api.Field{N: 103, Value: "spare"}
	for _, n := range []int{0, 2, 3, 5, 48, 102, 110} {
		m := full()
		fields := append(slices.Clone(m.Fields), spare, spare, spare)
		given := api.Message{Type: m.Type, Fields: fields[:len(m.Fields)]}
		first, second := Put(given, n, "a"), Put(given, n, "a")
		if !equal(given, m) || !slices.Equal(fields[len(m.Fields):], []api.Field{spare, spare, spare}) {
			t.Errorf("Put(.., %d, ..) changed its argument: %s", n, showMessage(given))
		}
		clear(first.Fields[:cap(first.Fields)])
		if !equal(given, m) || !equal(second, Put(m, n, "a")) {
			t.Errorf("a result of Put(.., %d, ..) shares memory", n)
		}
		clear(fields)
		if !equal(second, Put(m, n, "a")) {
			t.Errorf("Put(.., %d, ..) kept its argument", n)
		}
	}
}

func TestTextsAreNewMemory(t *testing.T) {
	given := full()
	value := strings.Clone("a new value")
	owned := map[*byte]bool{unsafe.StringData(value): true, unsafe.StringData(given.Type): true}
	for _, f := range given.Fields {
		owned[unsafe.StringData(f.Value)] = true
	}
	m := Put(given, 53, value)
	texts := []string{m.Type}
	for _, f := range m.Fields {
		one, _ := Value(given, f.N)
		texts = append(texts, f.Value, one)
	}
	for _, text := range texts {
		if text != "" && owned[unsafe.StringData(text)] {
			t.Errorf("%q is the argument's", text)
		}
		owned[unsafe.StringData(text)] = true
	}
}

// P12.6: there and back.

func TestParseReturnsWhatBytesEncoded(t *testing.T) {
	from := samples.New(179)
	rests := [][]byte{nil, {0}, {0xff}, {1, 0, 0x20, 0, 0, 0, 0, 0, 0, 0}, from.Bytes(50), make([]byte, 2000)}
	for _, m := range append(validMessages(1000), full(), message("0100")) {
		b := encodes(t, m)
		for _, rest := range rests {
			parses(t, slices.Concat(b, rest), m, len(b))
		}
		parses(t, slices.Concat(b, b), m, len(b))
	}
}

func TestParsedMessagesAreValid(t *testing.T) {
	from := samples.New(180)
	found := 0
	for range 30000 {
		b := slowBytes(valid(from))
		for range from.Below(3) {
			b[from.Below(len(b))] = byte(from.Below(256))
		}
		m, size, err := Parse(b)
		if err != api.OK {
			continue
		}
		found++
		if again := encodes(t, m); !bytes.Equal(again, b[:size]) {
			t.Errorf("Bytes of Parse(%s): %s", showBytes(b), showBytes(again))
		}
	}
	if found < 10000 {
		t.Errorf("only %d were parsed", found)
	}
}

func TestNoEncodingBeginsAnother(t *testing.T) {
	messages := validMessages(300)
	for _, kind := range []string{"0100", "0800"} {
		messages = append(messages, message(kind), message(kind, 3, "000000"), message(kind, 70, "000"), message(kind, 2, "0"), message(kind, 2, "00"), message(kind, 2, "000"), message(kind, 48, "0"), message(kind, 48, "00"))
	}
	encodings := make([][]byte, len(messages))
	for i, m := range messages {
		encodings[i] = encodes(t, m)
	}
	for i, a := range encodings {
		for j, b := range encodings {
			if bytes.HasPrefix(b, a) != equal(messages[i], messages[j]) {
				t.Errorf("%s and %s", showBytes(a), showBytes(b))
			}
		}
	}
}

// P12.7: Put and Value.

// slowPut follows the document's words.
func slowPut(m api.Message, n int, value string) api.Message {
	rest := slices.DeleteFunc(slices.Clone(m.Fields), func(f api.Field) bool { return f.N == n })
	for i, f := range rest {
		if f.N > n {
			return api.Message{Type: m.Type, Fields: slices.Concat(rest[:i], []api.Field{{N: n, Value: value}}, rest[i:])}
		}
	}
	return api.Message{Type: m.Type, Fields: append(rest, api.Field{N: n, Value: value})}
}

func TestValueReturnsWhatPutStored(t *testing.T) {
	from := samples.New(181)
	for range 5000 {
		m := api.Message{Type: from.Digits(from.Below(6))}
		for range from.Below(12) {
			m.Fields = append(m.Fields, api.Field{N: from.Below(10) - 2, Value: from.Digits(from.Below(4))})
		}
		n, value := from.Below(12)-3, string(from.Bytes(from.Below(4)))
		put := Put(m, n, value)
		if want := slowPut(m, n, value); !equal(put, want) {
			t.Errorf("Put(%s, %d, %q): %s; want %s", showMessage(m), n, value, showMessage(put), showMessage(want))
		}
		has(t, put, n, value)
		for other := -5; other < 12; other++ {
			if other == n {
				continue
			}
			if before, is := Value(m, other); is {
				has(t, put, other, before)
			} else {
				hasNot(t, put, other)
			}
		}
		if again := Put(put, n, value); !equal(again, put) {
			t.Errorf("%s becomes %s", showMessage(put), showMessage(again))
		}
	}
}

// Fields that are put in any order make a valid message.
func TestPutOrders(t *testing.T) {
	from := samples.New(182)
	want := full()
	for range 100 {
		m := api.Message{Type: want.Type}
		rest := slices.Clone(want.Fields)
		for len(rest) > 0 {
			at := from.Below(len(rest))
			if from.Below(3) == 0 {
				m = Put(m, rest[at].N, "to be replaced")
			}
			m = Put(m, rest[at].N, rest[at].Value)
			rest = slices.Delete(rest, at, at+1)
		}
		if !equal(m, want) {
			t.Fatalf("%s; want %s", showMessage(m), showMessage(want))
		}
		encodes(t, m)
	}
}
