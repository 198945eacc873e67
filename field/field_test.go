package field

import (
	"bytes"
	"encoding/hex"
	"fmt"
	"math"
	"math/rand"
	"strings"
	"testing"

	"guichet/api"
)

// numbers are the numbers of the fields that there are.
var numbers = []int{2, 3, 4, 7, 11, 12, 13, 37, 38, 39, 41, 42, 49, 54, 60, 70, 90, 95}

// forms are the fields' forms, as the chapter lists them.
var forms = map[int]Form{
	2: {true, 19, 2}, 3: {true, 6, 0}, 4: {true, 12, 0}, 7: {true, 10, 0}, 11: {true, 6, 0}, 12: {true, 6, 0}, 13: {true, 4, 0}, 49: {true, 3, 0}, 70: {true, 3, 0}, 90: {true, 42, 0},
	37: {false, 12, 0}, 38: {false, 6, 0}, 39: {false, 2, 0}, 41: {false, 8, 0}, 42: {false, 15, 0}, 54: {false, 120, 3}, 60: {false, 999, 3}, 95: {false, 42, 0},
}

// faraway are numbers that no field has.
var faraway = []int{math.MinInt, math.MinInt + 1, -1 << 40, -1<<32 + 2, -256, -129, -128, -39, -3, -2, -1, 129, 130, 256, 256 + 2, 256 + 39, 1000, 65536 + 3, 1<<32 + 2, 1<<32 + 39, 1 << 40, math.MaxInt - 1, math.MaxInt}

// right answers what Right must.
func right(n int, v string) bool {
	f, ok := forms[n]
	if !ok || f.Var == 0 && len(v) != f.Len || len(v) < 1 || len(v) > f.Len {
		return false
	}
	return allOf(f, v)
}

// allOf answers whether each sign of v is one that the form takes.
func allOf(f Form, v string) bool {
	for _, c := range []byte(v) {
		if f.Digits && !strings.Contains("0123456789", string(rune(c))) || c < ' ' || c > '~' {
			return false
		}
	}
	return true
}

// put answers what Put must, worked out from a text of hexadecimal digits.
func put(n int, v string) ([]byte, api.Errno) {
	if !right(n, v) {
		return nil, api.ErrField
	}
	f := forms[n]
	text := ""
	switch f.Var {
	case 2:
		text = fmt.Sprintf("%02d", len(v))
	case 3:
		text = fmt.Sprintf("%04d", len(v))
	}
	if f.Digits {
		text += strings.Repeat("0", len(v)%2) + v
	} else {
		text += fmt.Sprintf("%x", v)
	}
	b, _ := hex.DecodeString(text)
	return b, api.OK
}

// read answers what Read must: the one value whose bytes b begins with, guessed from each length that there may be.
func read(n int, b []byte) (string, int, api.Errno) {
	f, ok := forms[n]
	if !ok {
		return "", 0, api.ErrField
	}
	text := hex.EncodeToString(b)
	for length := 1; length <= f.Len; length++ {
		guess := ""
		ahead := []int{0, 0, 2, 4}[f.Var]
		switch {
		case f.Digits:
			ahead += length % 2
			if len(text) >= ahead+length {
				guess = text[ahead : ahead+length]
			}
		case len(b) >= ahead/2+length:
			guess = string(b[ahead/2 : ahead/2+length])
		}
		if want, e := put(n, guess); e == api.OK && bytes.HasPrefix(b, want) {
			return guess, len(want), api.OK
		}
	}
	return "", 0, api.ErrBytes
}

// asksPut holds Right and Put of v against what they must answer.
func asksPut(t *testing.T, n int, v string) {
	t.Helper()
	if got := Right(n, v); got != right(n, v) {
		t.Fatalf("Right(%d, %q): %v", n, v, got)
	}
	want, wantE := put(n, v)
	if b, e := Put(n, v); !bytes.Equal(b, want) || e != wantE {
		t.Fatalf("Put(%d, %q): %x, %d; want %x, %d", n, v, b, e, want, wantE)
	}
}

// asksRead holds Read of b against what it must answer, and Put of the value against what it took.
func asksRead(t *testing.T, n int, b []byte) {
	t.Helper()
	want, wantTook, wantE := read(n, b)
	v, took, e := Read(n, b)
	if v != want || took != wantTook || e != wantE {
		t.Fatalf("Read(%d, %x): %q, %d, %d; want %q, %d, %d", n, b, v, took, e, want, wantTook, wantE)
	}
	if e != api.OK {
		return
	}
	if back, e := Put(n, v); !bytes.Equal(back, b[:took]) || e != api.OK {
		t.Fatalf("Put(%d, %q): %x, %d; want %x, that was read", n, v, back, e, b[:took])
	}
}

// asksBack asks that v comes back from its bytes, whatever stands behind them, and that nothing comes from less of them.
func asksBack(t *testing.T, n int, v string) {
	t.Helper()
	asksPut(t, n, v)
	b, e := Put(n, v)
	if e != api.OK {
		t.Fatalf("Put(%d, %q): %d", n, v, e)
	}
	for _, behind := range []string{"", "\x00", "0", "9x", "\xff\xff", strings.Repeat("\x11", 30), strings.Repeat(" ", 1000)} {
		got, took, e := Read(n, append(bytes.Clone(b), behind...))
		if got != v || took != len(b) || e != api.OK {
			t.Fatalf("Read(%d, Put(%q) and %q): %q, %d, %d", n, v, behind, got, took, e)
		}
	}
	for length := range b {
		if got, took, e := Read(n, b[:length]); got != "" || took != 0 || e != api.ErrBytes {
			t.Fatalf("Read(%d, %d bytes of Put(%q)): %q, %d, %d", n, length, v, got, took, e)
		}
	}
}

// asksNone asks that all calls of field n tell that there is none.
func asksNone(t *testing.T, n int) {
	t.Helper()
	if f, ok := Of(n); ok || f != (Form{}) {
		t.Errorf("Of(%d): %v, %v", n, f, ok)
	}
	for length := range 45 {
		for _, sign := range []string{"0", "1", "x", "\x01", "\xff"} {
			v := strings.Repeat(sign, length)
			if Right(n, v) {
				t.Errorf("Right(%d, %q)", n, v)
			}
			if b, e := Put(n, v); len(b) != 0 || e != api.ErrField {
				t.Errorf("Put(%d, %q): %x, %d", n, v, b, e)
			}
			if got, took, e := Read(n, []byte(v)); got != "" || took != 0 || e != api.ErrField {
				t.Errorf("Read(%d, %q): %q, %d, %d", n, v, got, took, e)
			}
		}
	}
}

// some answers a text of that length, of signs that the form takes.
func some(r *rand.Rand, f Form, length int) string {
	out := make([]byte, length)
	for i := range out {
		if f.Digits {
			out[i] = byte('0' + r.Intn(10))
		} else {
			out[i] = byte(' ' + r.Intn('~'-' '+1))
		}
	}
	return string(out)
}

// lengths answers each length from 0 to one more than the form's Len.
func lengths(f Form) []int {
	var out []int
	for length := 0; length <= f.Len+1; length++ {
		out = append(out, length)
	}
	return out
}

// values answers right values of field n: of each length that it may have, of the same sign and of several.
func values(n int) []string {
	r := rand.New(rand.NewSource(int64(n)))
	f := forms[n]
	signs := " !09Az~"
	if f.Digits {
		signs = "0123456789"
	}
	var out []string
	for _, length := range lengths(f) {
		if f.Var == 0 && length != f.Len || length < 1 || length > f.Len {
			continue
		}
		for _, sign := range signs {
			out = append(out, strings.Repeat(string(sign), length))
		}
		for range 10 {
			out = append(out, some(r, f, length))
		}
	}
	return out
}

// P8.1
func TestForms(t *testing.T) {
	for n := -300; n <= 400; n++ {
		f, ok := Of(n)
		want, wantOK := forms[n]
		if f != want || ok != wantOK {
			t.Errorf("Of(%d): %v, %v; want %v, %v", n, f, ok, want, wantOK)
		}
	}
	if len(numbers) != len(forms) {
		t.Fatalf("%d numbers, %d forms", len(numbers), len(forms))
	}
}

// P8.1, P8.2
func TestNoSuchField(t *testing.T) {
	for n := -3; n <= 140; n++ {
		if _, ok := forms[n]; !ok {
			asksNone(t, n)
		}
	}
	for _, n := range faraway {
		asksNone(t, n)
	}
}

// P8.1, P8.2
func TestPutAtTheEdges(t *testing.T) {
	for _, x := range []struct {
		n    int
		v    string
		want string
	}{
		{39, "00", "00"}, {39, "  ", "  "}, {39, "~~", "~~"}, {39, " ~", " ~"},
		{2, "0", "\x01\x00"}, {2, "5", "\x01\x05"}, {2, "05", "\x02\x05"}, {2, "50", "\x02\x50"}, {2, "123", "\x03\x01\x23"}, {2, "0123", "\x04\x01\x23"},
		{2, "123456789", "\x09\x01\x23\x45\x67\x89"}, {2, "1234567890", "\x10\x12\x34\x56\x78\x90"}, {2, strings.Repeat("9", 18), "\x18" + strings.Repeat("\x99", 9)}, {2, strings.Repeat("9", 19), "\x19\x09" + strings.Repeat("\x99", 9)},
		{3, "010000", "\x01\x00\x00"}, {4, "000000001205", "\x00\x00\x00\x00\x12\x05"}, {7, "1118235959", "\x11\x18\x23\x59\x59"}, {11, "000001", "\x00\x00\x01"}, {12, "235959", "\x23\x59\x59"}, {13, "1118", "\x11\x18"},
		{49, "978", "\x09\x78"}, {49, "000", "\x00\x00"}, {49, "999", "\x09\x99"}, {70, "301", "\x03\x01"}, {90, strings.Repeat("12", 21), strings.Repeat("\x12", 21)},
		{37, "000000000001", "000000000001"}, {38, "A1b2C3", "A1b2C3"}, {41, "T0000012", "T0000012"}, {42, "A shop, a town.", "A shop, a town."}, {95, strings.Repeat("7", 42), strings.Repeat("7", 42)},
		{54, "a", "\x00\x01a"}, {54, "123456789", "\x00\x09123456789"}, {54, "1234567890", "\x00\x101234567890"}, {54, strings.Repeat("y", 99), "\x00\x99" + strings.Repeat("y", 99)}, {54, strings.Repeat("y", 100), "\x01\x00" + strings.Repeat("y", 100)}, {54, strings.Repeat("y", 120), "\x01\x20" + strings.Repeat("y", 120)},
		{60, "a", "\x00\x01a"}, {60, strings.Repeat("x", 121), "\x01\x21" + strings.Repeat("x", 121)}, {60, strings.Repeat("x", 998), "\x09\x98" + strings.Repeat("x", 998)}, {60, strings.Repeat("x", 999), "\x09\x99" + strings.Repeat("x", 999)},
	} {
		if b, e := Put(x.n, x.v); string(b) != x.want || e != api.OK || !Right(x.n, x.v) {
			t.Errorf("Put(%d, %q): %q, %d; want %q", x.n, x.v, b, e, x.want)
		}
		asksBack(t, x.n, x.v)
	}
}

// P8.1, P8.2: of each field a value of no signs, of one, and so on, to one too long and far too long.
func TestLengths(t *testing.T) {
	r := rand.New(rand.NewSource(81))
	for _, n := range numbers {
		f := forms[n]
		for _, length := range append(lengths(f), f.Len+2, 2*f.Len, 256+f.Len, 1000, 1000+f.Len, 10000, 65536+f.Len) {
			v := some(r, f, length)
			want := length == f.Len || f.Var > 0 && length >= 1 && length < f.Len
			if Right(n, v) != want {
				t.Errorf("Right(%d, a text of %d): %v", n, length, !want)
			}
			asksPut(t, n, v)
		}
	}
}

// P8.1, P8.2: each byte in each place of values of some lengths is right, or not, by itself.
func TestSigns(t *testing.T) {
	for _, n := range numbers {
		f := forms[n]
		for _, length := range []int{1, 2, 3, f.Len - 1, f.Len} {
			if f.Var == 0 && length != f.Len {
				continue
			}
			v := strings.Repeat("5", length)
			for _, i := range []int{0, 1, length / 2, length - 2, length - 1} {
				if i < 0 || i >= length {
					continue
				}
				for c := range 256 {
					text := v[:i] + string([]byte{byte(c)}) + v[i+1:]
					want := c >= 32 && c <= 126
					if f.Digits {
						want = c >= '0' && c <= '9'
					}
					if Right(n, text) != want {
						t.Fatalf("Right(%d, %q): %v", n, text, !want)
					}
					asksPut(t, n, text)
				}
			}
		}
	}
}

// P8.1: a value's length is that of its bytes; signs of several bytes are no signs of it.
func TestSignsOfSeveralBytes(t *testing.T) {
	for _, n := range numbers {
		for _, sign := range []string{"ö", "\u0661", "\uff11", "\u20ac", "\U0001d7d1", "\xff", "\x80", "\x00"} {
			for length := range forms[n].Len + 2 {
				v := strings.Repeat(sign, length)
				if Right(n, v) {
					t.Errorf("Right(%d, %q)", n, v)
				}
				asksPut(t, n, v)
			}
		}
	}
}

// P8.2, P8.3: each value comes back, and no less than its bytes are it.
func TestValuesComeBack(t *testing.T) {
	for _, n := range numbers {
		of := values(n)
		if len(of) > 2000 {
			of = append(of[:1000:1000], of[len(of)-100:]...)
		}
		for _, v := range of {
			asksBack(t, n, v)
		}
	}
}

// P8.2
func TestReadAtTheEdges(t *testing.T) {
	for _, x := range []struct {
		n    int
		b    string
		want string
		took int
		e    api.Errno
	}{
		{39, "", "", 0, api.ErrBytes}, {39, "0", "", 0, api.ErrBytes}, {39, "00", "00", 2, api.OK}, {39, "00\xff", "00", 2, api.OK}, {39, "0\x1f", "", 0, api.ErrBytes}, {39, "\x1f0", "", 0, api.ErrBytes}, {39, "0\x7f", "", 0, api.ErrBytes}, {39, "\x7f0", "", 0, api.ErrBytes}, {39, "\x80 ", "", 0, api.ErrBytes}, {39, " ~", " ~", 2, api.OK}, {39, "~ ", "~ ", 2, api.OK}, {39, "ö", "", 0, api.ErrBytes},
		{3, "\x01\x00\x00", "010000", 3, api.OK}, {3, "\x01\x00", "", 0, api.ErrBytes}, {3, "\x01\x00\x0a", "", 0, api.ErrBytes}, {3, "\xa1\x00\x00", "", 0, api.ErrBytes}, {3, "\x01\x00\x00\xff", "010000", 3, api.OK},
		{70, "\x03\x01", "301", 2, api.OK}, {70, "\x13\x01", "", 0, api.ErrBytes}, {70, "\x93\x01", "", 0, api.ErrBytes}, {70, "\xa3\x01", "", 0, api.ErrBytes}, {70, "\xf3\x01", "", 0, api.ErrBytes}, {70, "\x0a\x01", "", 0, api.ErrBytes}, {70, "\x03", "", 0, api.ErrBytes}, {70, "\x00\x00", "000", 2, api.OK},
		{2, "", "", 0, api.ErrBytes}, {2, "\x00", "", 0, api.ErrBytes}, {2, "\x00\x11", "", 0, api.ErrBytes}, {2, "\x01", "", 0, api.ErrBytes}, {2, "\x01\x05", "5", 2, api.OK}, {2, "\x01\x15", "", 0, api.ErrBytes}, {2, "\x02\x15", "15", 2, api.OK}, {2, "\x03\x15", "", 0, api.ErrBytes}, {2, "\x03\x11\x23", "", 0, api.ErrBytes}, {2, "\x03\x01\x23\xff", "123", 3, api.OK},
		{2, "\x19\x01" + strings.Repeat("\x23", 9), "1" + strings.Repeat("23", 9), 11, api.OK}, {2, "\x19\x11" + strings.Repeat("\x23", 9), "", 0, api.ErrBytes}, {2, "\x20" + strings.Repeat("\x11", 12), "", 0, api.ErrBytes}, {2, "\x0a" + strings.Repeat("\x11", 12), "", 0, api.ErrBytes}, {2, "\x13" + strings.Repeat("\x01", 7), strings.Repeat("01", 7)[1:], 8, api.OK}, {2, "\x99" + strings.Repeat("\x11", 60), "", 0, api.ErrBytes},
		{54, "", "", 0, api.ErrBytes}, {54, "\x00", "", 0, api.ErrBytes}, {54, "\x00\x00", "", 0, api.ErrBytes}, {54, "\x00\x00a", "", 0, api.ErrBytes}, {54, "\x00\x01", "", 0, api.ErrBytes}, {54, "\x00\x01a", "a", 3, api.OK}, {54, "\x10\x01a", "", 0, api.ErrBytes}, {54, "\x00\x02a", "", 0, api.ErrBytes}, {54, "\x00\x02ab", "ab", 4, api.OK}, {54, "\x00\x01\x1f", "", 0, api.ErrBytes}, {54, "\x00\x01\x7f", "", 0, api.ErrBytes},
		{54, "\x01\x20" + strings.Repeat("y", 121), strings.Repeat("y", 120), 122, api.OK}, {54, "\x01\x21" + strings.Repeat("y", 122), "", 0, api.ErrBytes}, {54, "\x00\x0a" + strings.Repeat("y", 20), "", 0, api.ErrBytes}, {54, "\x00\xa0" + strings.Repeat("y", 200), "", 0, api.ErrBytes}, {54, "\x0a\x00" + strings.Repeat("y", 2000), "", 0, api.ErrBytes}, {54, "\xa0\x01a", "", 0, api.ErrBytes}, {54, "\x09\x99" + strings.Repeat("y", 1200), "", 0, api.ErrBytes},
		{60, "\x09\x99" + strings.Repeat("x", 999), strings.Repeat("x", 999), 1001, api.OK}, {60, "\x09\x99" + strings.Repeat("x", 998), "", 0, api.ErrBytes}, {60, "\x10\x00" + strings.Repeat("x", 1001), "", 0, api.ErrBytes}, {60, "\x19\x99" + strings.Repeat("x", 2000), "", 0, api.ErrBytes}, {60, "\x00\x00", "", 0, api.ErrBytes},
		{1, "", "", 0, api.ErrField}, {1, "\xff\xff", "", 0, api.ErrField}, {0, "", "", 0, api.ErrField}, {128, "xxxx", "", 0, api.ErrField},
	} {
		if v, took, e := Read(x.n, []byte(x.b)); v != x.want || took != x.took || e != x.e {
			t.Errorf("Read(%d, %q): %q, %d, %d; want %q, %d, %d", x.n, x.b, v, took, e, x.want, x.took, x.e)
		}
		asksRead(t, x.n, []byte(x.b))
	}
}

// P8.2: no bytes are no field.
func TestReadOfNothing(t *testing.T) {
	for _, n := range numbers {
		for _, b := range [][]byte{nil, {}} {
			if v, took, e := Read(n, b); v != "" || took != 0 || e != api.ErrBytes {
				t.Errorf("Read(%d) of nothing: %q, %d, %d", n, v, took, e)
			}
		}
	}
}

// P8.2, P8.3: each length ahead, in digits or not, with enough behind it, with just enough, and with one byte less.
func TestReadOfEachLengthAhead(t *testing.T) {
	for first := range 256 {
		for _, behind := range []int{0, 1, 9, 10, 11, 60} {
			asksRead(t, 2, append([]byte{byte(first)}, bytes.Repeat([]byte{0x01}, behind)...))
			asksRead(t, 2, append([]byte{byte(first)}, bytes.Repeat([]byte{0x11}, behind)...))
		}
	}
	much := strings.Repeat("z", 10000)
	for ahead := range 65536 {
		b := []byte{byte(ahead >> 8), byte(ahead)}
		text := fmt.Sprintf("%04x", ahead)
		length := 0
		if strings.Trim(text, "0123456789") == "" {
			fmt.Sscanf(text, "%d", &length)
		}
		for _, n := range []int{54, 60} {
			want, wantTook, wantE := much[:length], length+2, api.OK
			if length < 1 || length > forms[n].Len {
				want, wantTook, wantE = "", 0, api.ErrBytes
			}
			if v, took, e := Read(n, append(b, much...)); v != want || took != wantTook || e != wantE {
				t.Fatalf("Read(%d, %x and many bytes): %q, %d, %d", n, b, v, took, e)
			}
			if wantE != api.OK {
				continue
			}
			if v, took, e := Read(n, append(b, want...)); v != want || took != wantTook || e != wantE {
				t.Fatalf("Read(%d, %x and just enough): %q, %d, %d", n, b, v, took, e)
			}
			if v, took, e := Read(n, append(b, want[1:]...)); v != "" || took != 0 || e != api.ErrBytes {
				t.Fatalf("Read(%d, %x and one byte less): %q, %d, %d", n, b, v, took, e)
			}
		}
	}
}

// P8.2, P8.3: each byte in each place of each field's bytes, and of several lengths of those that have one ahead.
func TestReadOfEachByte(t *testing.T) {
	r := rand.New(rand.NewSource(82))
	for _, n := range numbers {
		f := forms[n]
		for _, length := range []int{1, 2, 3, 18, f.Len} {
			if f.Var == 0 && length != f.Len || length > 120 {
				continue
			}
			b, e := Put(n, some(r, f, length))
			if e != api.OK {
				t.Fatalf("Put(%d) of %d signs: %d", n, length, e)
			}
			b = append(b, "7 "...)
			for i := range b {
				changed := bytes.Clone(b)
				for c := range 256 {
					changed[i] = byte(c)
					asksRead(t, n, changed)
				}
			}
		}
	}
}

// P8.2, P8.3: whatever the bytes are, what is read is what Put makes of the value.
func TestReadOfAnyBytes(t *testing.T) {
	r := rand.New(rand.NewSource(83))
	taken := 0
	for range 40000 {
		n := numbers[r.Intn(len(numbers))]
		b := make([]byte, r.Intn(48))
		for i := range b {
			switch r.Intn(40) {
			case 0:
				b[i] = byte(r.Intn(256))
			default:
				b[i] = byte((2+r.Intn(6))<<4 | r.Intn(10))
			}
		}
		if len(b) > 2 && forms[n].Var > 0 {
			copy(b, [][]byte{nil, nil, {byte(r.Intn(2)<<4 | r.Intn(10)), byte(r.Intn(10))}, {0, byte(r.Intn(4)<<4 | r.Intn(10))}}[forms[n].Var])
		}
		asksRead(t, n, b)
		if _, _, e := Read(n, b); e == api.OK {
			taken++
		}
	}
	if taken < 4000 {
		t.Errorf("only %d of the bytes were taken", taken)
	}
}

// P8.3: other values have other bytes, of which none are the beginning of another's.
func TestValuesAreToldApart(t *testing.T) {
	for _, n := range []int{2, 3, 13, 39, 49, 54} {
		seen := map[string]string{}
		for _, v := range values(n) {
			b, _ := Put(n, v)
			seen[string(b)] = v
		}
		for b, v := range seen {
			for length := range len(b) + 1 {
				if other, ok := seen[b[:length]]; ok && other != v {
					t.Fatalf("field %d: the bytes of %q are the beginning of %q's", n, other, v)
				}
			}
		}
		for _, v := range values(n) {
			if b, _ := Put(n, v); seen[string(b)] != v {
				t.Fatalf("field %d: %q and %q have the same bytes", n, v, seen[string(b)])
			}
		}
	}
}

// DOC.md's third rule: what is handed in stays as it is, the spare room behind it too, and isn't kept.
func TestReadChangesNothing(t *testing.T) {
	for _, n := range numbers {
		v := values(n)[0]
		b, _ := Put(n, v)
		whole := append(bytes.Clone(b), strings.Repeat("\x12", 64)...)
		was := bytes.Clone(whole)
		for length := range whole {
			want, wantTook, wantE := read(n, bytes.Clone(whole[:length]))
			if got, took, e := Read(n, whole[:length]); got != want || took != wantTook || e != wantE {
				t.Fatalf("Read(%d, %x), with more behind: %q, %d, %d", n, whole[:length], got, took, e)
			}
		}
		if !bytes.Equal(whole, was) {
			t.Errorf("field %d: what was handed in is now %x", n, whole)
		}
		got, _, _ := Read(n, whole)
		clear(whole)
		if got != v {
			t.Errorf("field %d: the answer is now %q", n, got)
		}
	}
}

// DOC.md's third rule: what is answered is new memory.
func TestPutAnswersNewMemory(t *testing.T) {
	for _, n := range numbers {
		v := values(n)[0]
		first, _ := Put(n, v)
		second, _ := Put(n, v)
		for i := range first {
			first[i] = 0xff
		}
		_ = append(first, 0xff)
		if want, _ := put(n, v); !bytes.Equal(second, want) {
			t.Errorf("Put(%d, %q) behind a change of an earlier answer: %x", n, v, second)
		}
		asksPut(t, n, v)
	}
}

// DOC.md's eighth rule: what Of answers hangs on the number alone.
func TestFormsStay(t *testing.T) {
	for _, n := range numbers {
		f, _ := Of(n)
		f.Len, f.Digits, f.Var = 1, !f.Digits, 2
		if got, ok := Of(n); got != forms[n] || !ok {
			t.Errorf("Of(%d) behind a change of an earlier answer: %v", n, got)
		}
	}
}
