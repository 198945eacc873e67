package bcd

import (
	"bytes"
	"encoding/hex"
	"fmt"
	"math"
	"math/rand"
	"strconv"
	"strings"
	"testing"
)

// allDigits answers whether s has digits alone.
func allDigits(s string) bool {
	return strings.Trim(s, "0123456789") == ""
}

// packed answers what Pack must: digits are the signs of hexadecimal numbers below ten.
func packed(s string) ([]byte, bool) {
	if !allDigits(s) {
		return nil, false
	}
	b, e := hex.DecodeString(strings.Repeat("0", len(s)%2) + s)
	return b, e == nil
}

// unpacked answers what Unpack must, worked out from b's hexadecimal text.
func unpacked(b []byte, digits int) (string, bool) {
	s := hex.EncodeToString(b)
	if !allDigits(s) {
		return "", false
	}
	if digits == len(s) {
		return s, true
	}
	rest, nought := strings.CutPrefix(s, "0")
	if nought && digits == len(rest) {
		return rest, true
	}
	return "", false
}

// asksPack holds Pack of s against what it must answer.
func asksPack(t *testing.T, s string) {
	t.Helper()
	want, wantOK := packed(s)
	if b, ok := Pack(s); !bytes.Equal(b, want) || ok != wantOK {
		t.Fatalf("Pack(%q): %x, %v; want %x, %v", s, b, ok, want, wantOK)
	}
}

// asksUnpack holds Unpack of b against what it must answer.
func asksUnpack(t *testing.T, b []byte, digits int) {
	t.Helper()
	want, wantOK := unpacked(b, digits)
	if s, ok := Unpack(b, digits); s != want || ok != wantOK {
		t.Fatalf("Unpack(%x, %d): %q, %v; want %q, %v", b, digits, s, ok, want, wantOK)
	}
}

// texts answers texts of digits of each length up to most, of the same digit, and of several.
func texts(most int) []string {
	r := rand.New(rand.NewSource(6))
	var out []string
	for length := 0; length <= most; length++ {
		for digit := range 10 {
			out = append(out, strings.Repeat(strconv.Itoa(digit), length))
		}
		for range 20 {
			b := make([]byte, length)
			for i := range b {
				b[i] = byte('0' + r.Intn(10))
			}
			out = append(out, string(b))
		}
	}
	return out
}

// noDigits answers all signs of one byte that aren't digits.
func noDigits() []string {
	var out []string
	for c := range 256 {
		if s := string([]byte{byte(c)}); !allDigits(s) {
			out = append(out, s)
		}
	}
	return out
}

// P6.1
func TestPackAtTheEdges(t *testing.T) {
	for _, x := range []struct {
		s    string
		want []byte
	}{
		{"123", []byte{0x01, 0x23}}, {"", nil},
		{"0", []byte{0}}, {"5", []byte{0x05}}, {"9", []byte{0x09}},
		{"00", []byte{0}}, {"05", []byte{0x05}}, {"50", []byte{0x50}}, {"90", []byte{0x90}}, {"99", []byte{0x99}},
		{"000", []byte{0, 0}}, {"0123", []byte{0x01, 0x23}}, {"1230", []byte{0x12, 0x30}},
		{"1234567890", []byte{0x12, 0x34, 0x56, 0x78, 0x90}}, {"234567890", []byte{0x02, 0x34, 0x56, 0x78, 0x90}},
	} {
		if b, ok := Pack(x.s); !ok || !bytes.Equal(b, x.want) {
			t.Errorf("Pack(%q): %x, %v; want %x", x.s, b, ok, x.want)
		}
	}
}

// P6.1
func TestPackOfShortTexts(t *testing.T) {
	for a := range 256 {
		asksPack(t, string([]byte{byte(a)}))
		for b := range 256 {
			asksPack(t, string([]byte{byte(a), byte(b)}))
		}
	}
}

// P6.1: one sign that is no digit is enough, in either half, at either end or between.
func TestPackOfWhatIsNoDigit(t *testing.T) {
	for _, s := range []string{"1", "12", "123", "1234", "12345", "1234567890123456789"} {
		for i := range s {
			for _, wrong := range noDigits() {
				text := s[:i] + wrong + s[i+1:]
				if b, ok := Pack(text); ok || len(b) != 0 {
					t.Fatalf("Pack(%q): %x, %v", text, b, ok)
				}
				asksPack(t, s[:i]+wrong+s[i:])
			}
		}
	}
	for _, s := range []string{" ", " 1", "1 ", "+1", "-1", "1.0", "1e3", "0x1", "a", "F", "\x00", "1\x00", "\u0661", "\uff11", strings.Repeat("7", 1001) + "x"} {
		if b, ok := Pack(s); ok || len(b) != 0 {
			t.Errorf("Pack(%q): %x, %v", s, b, ok)
		}
	}
}

// P6.1
func TestUnpackAtTheEdges(t *testing.T) {
	for _, x := range []struct {
		b      []byte
		digits int
		want   string
		ok     bool
	}{
		{[]byte{0x01, 0x23}, 3, "123", true}, {[]byte{0x01, 0x23}, 4, "0123", true},
		{[]byte{0x01, 0x23}, 2, "", false}, {[]byte{0x01, 0x23}, 5, "", false},
		{[]byte{0x01, 0x23}, 1, "", false}, {[]byte{0x01, 0x23}, 6, "", false}, {[]byte{0x01, 0x23}, 0, "", false},
		{nil, 0, "", true}, {[]byte{}, 0, "", true}, {nil, 1, "", false}, {nil, 2, "", false}, {nil, -1, "", false}, {nil, -2, "", false},
		{[]byte{0}, 0, "", false}, {[]byte{0}, -1, "", false}, {[]byte{0}, 1, "0", true}, {[]byte{0}, 2, "00", true}, {[]byte{0}, 3, "", false},
		{[]byte{0x09}, 1, "9", true}, {[]byte{0x99}, 2, "99", true}, {[]byte{0x90}, 2, "90", true},
		{[]byte{0x10}, 1, "", false}, {[]byte{0x15}, 1, "", false}, {[]byte{0x95, 0x43}, 3, "", false}, {[]byte{0x10, 0x00}, 3, "", false},
		{[]byte{0x0a}, 1, "", false}, {[]byte{0x0f}, 1, "", false}, {[]byte{0xa0}, 1, "", false}, {[]byte{0xf0}, 1, "", false},
		{[]byte{0x0a}, 2, "", false}, {[]byte{0xa0}, 2, "", false}, {[]byte{0xff}, 2, "", false},
		{[]byte{0x1a, 0x23}, 4, "", false}, {[]byte{0xa1, 0x23}, 4, "", false}, {[]byte{0x12, 0x3a}, 4, "", false}, {[]byte{0x12, 0xa3}, 4, "", false},
		{[]byte{0x01, 0x2f}, 3, "", false}, {[]byte{0x01, 0xf2}, 3, "", false},
	} {
		if s, ok := Unpack(x.b, x.digits); s != x.want || ok != x.ok {
			t.Errorf("Unpack(%x, %d): %q, %v; want %q, %v", x.b, x.digits, s, ok, x.want, x.ok)
		}
	}
}

// P6.1
func TestUnpackOfShortBytes(t *testing.T) {
	for digits := -2; digits <= 6; digits++ {
		asksUnpack(t, nil, digits)
		for a := range 256 {
			asksUnpack(t, []byte{byte(a)}, digits)
			for b := range 256 {
				asksUnpack(t, []byte{byte(a), byte(b)}, digits)
			}
		}
	}
}

// P6.1: of no number of digits that the bytes don't have, however far away it is.
func TestUnpackOfOtherNumbersOfDigits(t *testing.T) {
	for length := range 12 {
		b := make([]byte, length)
		for _, digits := range []int{math.MinInt, math.MinInt + 1, -1 << 40, -1 << 32, 1<<32 + 2*length, 1<<32 + 2*length - 1, 1 << 40, math.MaxInt - 1, math.MaxInt} {
			if s, ok := Unpack(b, digits); ok || s != "" {
				t.Errorf("Unpack of %d bytes, %d digits: %q, %v", length, digits, s, ok)
			}
		}
		for digits := -2*length - 2; digits <= 2*length+3; digits++ {
			asksUnpack(t, b, digits)
		}
	}
}

// P6.1: one half above nine is enough, wherever it is.
func TestUnpackOfHalvesAboveNine(t *testing.T) {
	for _, digits := range []int{1, 2, 3, 4, 5, 6, 19, 20} {
		right, _ := Pack(strings.Repeat("7", digits))
		for half := range 2 * len(right) {
			for above := byte(10); above < 16; above++ {
				b := bytes.Clone(right)
				if half%2 == 0 {
					b[half/2] = above<<4 | b[half/2]&0x0f
				} else {
					b[half/2] = b[half/2]&0xf0 | above
				}
				if s, ok := Unpack(b, digits); ok || s != "" {
					t.Fatalf("Unpack(%x, %d): %q, %v", b, digits, s, ok)
				}
			}
		}
	}
}

// P6.1: the nought ahead is no other digit.
func TestUnpackOfAnotherDigitAhead(t *testing.T) {
	for digits := 1; digits <= 21; digits += 2 {
		b, _ := Pack(strings.Repeat("3", digits))
		for ahead := byte(1); ahead < 16; ahead++ {
			b[0] = ahead<<4 | 3
			if s, ok := Unpack(b, digits); ok || s != "" {
				t.Fatalf("Unpack(%x, %d): %q, %v", b, digits, s, ok)
			}
		}
	}
}

// P6.2: each text comes back, and of its bytes no other text does.
func TestPackedDigitsComeBack(t *testing.T) {
	for _, s := range append(texts(40), strings.Repeat("12345", 4000), strings.Repeat("1234567", 3001)) {
		asksPack(t, s)
		b, ok := Pack(s)
		if !ok {
			t.Fatalf("Pack(%q): false", s)
		}
		if got, ok := Unpack(b, len(s)); got != s || !ok {
			t.Fatalf("Unpack(%x, %d): %q, %v; want %q", b, len(s), got, ok, s)
		}
		for _, digits := range []int{len(s) - 2, len(s) - 1, len(s) + 1, len(s) + 2} {
			asksUnpack(t, b, digits)
		}
	}
}

// P6.2: bytes that are unpacked are those that Pack makes of it.
func TestUnpackedBytesComeBack(t *testing.T) {
	r := rand.New(rand.NewSource(62))
	taken := 0
	for range 20000 {
		b := make([]byte, r.Intn(4))
		for i := range b {
			b[i] = byte(r.Intn(10)<<4 | r.Intn(11))
		}
		for digits := 2*len(b) - 1; digits <= 2*len(b); digits++ {
			s, ok := Unpack(b, digits)
			if !ok {
				continue
			}
			taken++
			if got, ok := Pack(s); !ok || !bytes.Equal(got, b) || len(s) != digits {
				t.Fatalf("Pack(Unpack(%x, %d)): %x, %v of %q", b, digits, got, ok, s)
			}
		}
	}
	if taken < 1000 {
		t.Errorf("only %d of the bytes were taken", taken)
	}
}

// P6.1
func TestNumberAtTheEdges(t *testing.T) {
	for _, x := range []struct {
		s  string
		v  int64
		ok bool
	}{
		{"", 0, false}, {"0", 0, true}, {"1", 1, true}, {"9", 9, true}, {"10", 10, true}, {"42", 42, true}, {"042", 42, true}, {"420", 420, true},
		{"123456789012345678", 123456789012345678, true}, {"876543210987654321", 876543210987654321, true},
		{strings.Repeat("9", 17), 99999999999999999, true}, {strings.Repeat("9", 18), 999999999999999999, true}, {strings.Repeat("9", 19), 0, false},
		{strings.Repeat("0", 18), 0, true}, {strings.Repeat("0", 17) + "1", 1, true}, {"1" + strings.Repeat("0", 17), 100000000000000000, true},
		{strings.Repeat("0", 19), 0, false}, {strings.Repeat("0", 18) + "1", 0, false}, {"0" + strings.Repeat("9", 18), 0, false}, {"1" + strings.Repeat("0", 18), 0, false},
		{"1" + strings.Repeat("0", 19), 0, false}, {strings.Repeat("0", 1000), 0, false}, {strings.Repeat("9", 1000), 0, false},
		{"9223372036854775807", 0, false}, {"9223372036854775808", 0, false}, {"18446744073709551617", 0, false},
		{"-1", 0, false}, {"+1", 0, false}, {"-0", 0, false}, {" 1", 0, false}, {"1 ", 0, false}, {"1_0", 0, false}, {"1.0", 0, false}, {"1e3", 0, false}, {"0x1", 0, false}, {"a", 0, false},
		{"\u0661", 0, false}, {"\uff11", 0, false}, {"1\x00", 0, false}, {strings.Repeat("9", 17) + "x", 0, false}, {"x" + strings.Repeat("9", 17), 0, false},
	} {
		if v, ok := Number(x.s); v != x.v || ok != x.ok {
			t.Errorf("Number(%q): %d, %v; want %d, %v", x.s, v, ok, x.v, x.ok)
		}
	}
}

// P6.1: one sign that is no digit is enough, wherever it is.
func TestNumberOfWhatIsNoDigit(t *testing.T) {
	for _, s := range []string{"0", "12", "123", "123456789012345678"} {
		for i := range s {
			for _, wrong := range noDigits() {
				text := s[:i] + wrong + s[i+1:]
				if v, ok := Number(text); ok || v != 0 {
					t.Fatalf("Number(%q): %d, %v", text, v, ok)
				}
			}
		}
	}
}

// P6.1
func TestDigitsAtTheEdges(t *testing.T) {
	for _, x := range []struct {
		v    int64
		n    int
		want string
		ok   bool
	}{
		{42, 4, "0042", true}, {42, 3, "042", true}, {42, 2, "42", true}, {42, 1, "", false}, {42, 0, "", false},
		{0, 1, "0", true}, {0, 2, "00", true}, {0, 18, strings.Repeat("0", 18), true}, {0, 19, "", false}, {0, 20, "", false}, {0, 0, "", false}, {0, -1, "", false},
		{5, 1, "5", true}, {9, 1, "9", true}, {10, 1, "", false}, {11, 1, "", false}, {5, 0, "", false}, {5, -1, "", false}, {5, -3, "", false}, {5, 19, "", false},
		{5, math.MinInt, "", false}, {5, math.MinInt + 1, "", false}, {5, math.MaxInt, "", false}, {5, 1 << 32, "", false}, {5, 1<<32 + 1, "", false}, {5, 1 << 40, "", false},
		{99, 2, "99", true}, {100, 2, "", false}, {100, 3, "100", true}, {120, 2, "", false}, {999999, 6, "999999", true}, {1000000, 6, "", false},
		{99999999999999999, 17, strings.Repeat("9", 17), true}, {99999999999999999, 18, "0" + strings.Repeat("9", 17), true}, {100000000000000000, 17, "", false},
		{100000000000000000, 18, "1" + strings.Repeat("0", 17), true}, {999999999999999999, 18, strings.Repeat("9", 18), true}, {999999999999999999, 17, "", false}, {999999999999999999, 19, "", false},
		{1000000000000000000, 18, "", false}, {1000000000000000000, 19, "", false},
		{math.MaxInt64, 18, "", false}, {math.MaxInt64, 19, "", false}, {math.MaxInt64, 20, "", false}, {math.MaxInt64, 1, "", false},
		{-1, 1, "", false}, {-1, 2, "", false}, {-5, 4, "", false}, {-10, 18, "", false}, {-10, 1, "", false},
		{math.MinInt64, 18, "", false}, {math.MinInt64, 19, "", false}, {math.MinInt64, 20, "", false}, {math.MinInt64, 1, "", false}, {math.MinInt64 + 1, 18, "", false},
	} {
		if s, ok := Digits(x.v, x.n); s != x.want || ok != x.ok {
			t.Errorf("Digits(%d, %d): %q, %v; want %q, %v", x.v, x.n, s, ok, x.want, x.ok)
		}
	}
}

// P6.1: at each power of ten and one below it, in each number of digits; a number below 0 has none.
func TestDigitsOfEachLength(t *testing.T) {
	power := int64(1)
	for length := 1; length <= 19; length++ {
		for _, v := range []int64{power, power + 1, power - 1, power / 10 * 3} {
			for n := -1; n <= 20; n++ {
				text := strconv.FormatInt(v, 10)
				want, wantOK := fmt.Sprintf("%0*d", max(n, 1), v), n >= 1 && n <= 18 && len(text) <= n
				if !wantOK {
					want = ""
				}
				if s, ok := Digits(v, n); s != want || ok != wantOK {
					t.Fatalf("Digits(%d, %d): %q, %v; want %q, %v", v, n, s, ok, want, wantOK)
				}
				if s, ok := Digits(-v-1, n); ok || s != "" {
					t.Fatalf("Digits(%d, %d): %q, %v", -v-1, n, s, ok)
				}
			}
		}
		if length < 19 {
			power *= 10
		}
	}
}

// P6.2: a number's digits tell the number, and a text of digits comes back whole.
func TestDigitsOfNumbersComeBack(t *testing.T) {
	for _, s := range texts(18) {
		if s == "" {
			continue
		}
		v, ok := Number(s)
		want, _ := strconv.ParseInt(s, 10, 64)
		if v != want || !ok {
			t.Fatalf("Number(%q): %d, %v; want %d", s, v, ok, want)
		}
		if got, ok := Digits(v, len(s)); got != s || !ok {
			t.Fatalf("Digits(%d, %d): %q, %v; want %q", v, len(s), got, ok, s)
		}
		for n := 1; n <= 18; n++ {
			if text, ok := Digits(v, n); ok {
				if got, ok := Number(text); got != v || !ok || len(text) != n {
					t.Fatalf("Number(%q): %d, %v; want %d", text, got, ok, v)
				}
			}
		}
	}
}

// DOC.md's third rule: what is handed in stays as it is, the spare room behind it too, and isn't kept.
func TestUnpackChangesNothing(t *testing.T) {
	whole := []byte{0x01, 0x23, 0x45, 0x67, 0x89}
	was := bytes.Clone(whole)
	for length := range whole {
		for digits := -1; digits <= 11; digits++ {
			Unpack(whole[:length], digits)
		}
	}
	if !bytes.Equal(whole, was) {
		t.Errorf("what was handed in is now %x", whole)
	}
	s, _ := Unpack(whole[:2], 3)
	whole[0], whole[1] = 0x09, 0x87
	if s != "123" {
		t.Errorf("the answer is now %q", s)
	}
}

// DOC.md's third rule: what is answered is new memory.
func TestPackAnswersNewMemory(t *testing.T) {
	for _, s := range []string{"1", "12", "123"} {
		first, _ := Pack(s)
		second, _ := Pack(s)
		for i := range first {
			first[i] = 0xff
		}
		_ = append(first, 0xff)
		if want, _ := packed(s); !bytes.Equal(second, want) {
			t.Errorf("Pack(%q) behind a change of an earlier answer: %x", s, second)
		}
		asksPack(t, s)
	}
}
