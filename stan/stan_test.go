package stan

import (
	"fmt"
	"math"
	"math/rand"
	"strconv"
	"testing"

	"guichet/api"
)

// greatest is the greatest number of a transaction, as the chapter says it.
const greatest = 999999

// terms are terminals at the ends and between, some with the same last byte.
var terms = []uint16{0, 1, 3, 9, 10, 99, 255, 256, 259, 999, 9999, 10000, 32767, 32768, 65534, 65535}

// within are numbers that a key's text has, at the ends and between.
var within = []uint32{0, 1, 2, 9, 10, 99, 255, 256, 65535, 65536, 99999, 100000, 123456, 999998, 999999}

// beyond are numbers above the greatest one, some with last bits that say less.
var beyond = []uint32{1000000, 1000001, 1 << 20, 9999999, 1<<24 + 5, 1<<31 - 1, 1 << 31, 1<<31 + 7, 1<<32 - 2, math.MaxUint32}

// key answers the key of a terminal and a number.
func key(term uint16, number uint32) api.Key {
	return api.Key{Term: term, Stan: number}
}

// told is what a book was told: that it should tell the next one, or of a number that was seen.
type told struct {
	next bool
	k    api.Key
}

// lastOf answers what Last must: all that the book was told, gone through from its beginning.
func lastOf(all []told, term uint16) uint32 {
	last := uint32(0)
	for _, x := range all {
		switch {
		case x.k.Term != term:
		case x.next:
			last = last%greatest + 1
		case x.k.Stan <= greatest:
			last = max(last, x.k.Stan)
		}
	}
	return last
}

// asksLast fails the test where a terminal's last number isn't want; it asks twice, for asking changes nothing.
func asksLast(t *testing.T, b *Book, term uint16, want uint32) {
	t.Helper()
	for range 2 {
		if got := b.Last(term); got != want {
			t.Fatalf("Last(%d): %d, not %d", term, got, want)
		}
	}
}

// asksNext fails the test where a terminal's next key isn't of the number want, or isn't the last one then.
func asksNext(t *testing.T, b *Book, term uint16, want uint32) {
	t.Helper()
	if got := b.Next(term); got != key(term, want) {
		t.Fatalf("Next(%d): %v, not of %d", term, got, want)
	}
	asksLast(t, b, term, want)
}

// asksSaw fails the test where, behind Saw of a number, a terminal's last one isn't want.
func asksSaw(t *testing.T, b *Book, term uint16, number, want uint32) {
	t.Helper()
	b.Saw(key(term, number))
	asksLast(t, b, term, want)
}

// P10.1
func TestLastIsZeroAtFirst(t *testing.T) {
	b := New()
	for _, term := range terms {
		asksLast(t, b, term, 0)
	}
}

// P10.1: the chapter's example.
func TestNextOfTheChapter(t *testing.T) {
	b := New()
	asksNext(t, b, 3, 1)
	asksNext(t, b, 3, 2)
}

// P10.1
func TestNextOfTerminalsInTurn(t *testing.T) {
	b := New()
	for want := uint32(1); want <= 300; want++ {
		for _, term := range terms {
			asksLast(t, b, term, want-1)
			asksNext(t, b, term, want)
		}
		asksLast(t, b, 77, 0)
	}
}

// P10.1: each terminal that there is has numbers of its own.
func TestNextOfEachTerminal(t *testing.T) {
	b := New()
	for term := range 1 << 16 {
		b.Saw(key(uint16(term), uint32(term)))
	}
	for term := range 1 << 16 {
		asksNext(t, b, uint16(term), uint32(term)+1)
	}
}

// P10.1: behind the greatest number comes 1, of each terminal by itself.
func TestNextGoesRound(t *testing.T) {
	for _, term := range terms {
		b := New()
		other := term ^ 256
		asksNext(t, b, other, 1)
		asksSaw(t, b, term, greatest-1, greatest-1)
		for _, want := range []uint32{greatest, 1, 2, 3} {
			asksNext(t, b, term, want)
			asksLast(t, b, other, 1)
		}
		asksSaw(t, b, term, greatest, greatest)
		asksNext(t, b, term, 1)
		asksNext(t, b, other, 2)
	}
}

// P10.1
func TestSawOfATerminalThatWasAsked(t *testing.T) {
	for _, x := range []struct{ saw, want uint32 }{
		{0, 5}, {1, 5}, {4, 5}, {5, 5}, {6, 6}, {7, 7}, {1000, 1000}, {greatest - 1, greatest - 1}, {greatest, greatest},
	} {
		b := New()
		for want := uint32(1); want <= 5; want++ {
			asksNext(t, b, 3, want)
		}
		asksSaw(t, b, 3, x.saw, x.want)
		asksSaw(t, b, 3, x.saw, x.want)
		asksLast(t, b, 4, 0)
		asksNext(t, b, 3, x.want%greatest+1)
	}
}

// P10.1
func TestSawOfATerminalThatWasNotAsked(t *testing.T) {
	for _, term := range terms {
		for _, number := range within {
			b := New()
			asksSaw(t, b, term, number, number)
			asksLast(t, b, term^1, 0)
			asksNext(t, b, term, number%greatest+1)
		}
	}
}

// P10.1: a number above the greatest one is none, whatever the last one is.
func TestSawOfWhatIsNoNumber(t *testing.T) {
	for _, last := range within {
		for _, number := range append([]uint32{0}, beyond...) {
			b := New()
			asksSaw(t, b, 3, last, last)
			asksSaw(t, b, 3, number, last)
			asksLast(t, b, 4, 0)
			asksNext(t, b, 3, last%greatest+1)
		}
	}
}

// P10.1: each two numbers that are seen, one behind the other.
func TestSawOfTwo(t *testing.T) {
	for _, first := range within {
		for _, second := range within {
			b := New()
			asksSaw(t, b, 9, first, first)
			asksSaw(t, b, 9, second, max(first, second))
		}
	}
}

// P10.1: a number that was seen below the last one, behind the round, is taken if it is above it.
func TestSawBehindTheRound(t *testing.T) {
	b := New()
	asksSaw(t, b, 3, greatest, greatest)
	asksNext(t, b, 3, 1)
	asksSaw(t, b, 3, 1, 1)
	asksSaw(t, b, 3, 2, 2)
	asksSaw(t, b, 3, greatest-1, greatest-1)
	asksNext(t, b, 3, greatest)
	asksNext(t, b, 3, 1)
}

// P10.1, rule 8: what one book is told, another doesn't tell.
func TestBooksSideBySide(t *testing.T) {
	a, b := New(), New()
	asksNext(t, a, 3, 1)
	asksLast(t, b, 3, 0)
	asksSaw(t, b, 3, 50, 50)
	asksLast(t, a, 3, 1)
	asksNext(t, a, 3, 2)
	asksNext(t, b, 3, 51)
	asksLast(t, New(), 3, 0)
	asksLast(t, a, 3, 2)
	asksLast(t, b, 3, 51)
}

// P10.1, against all that a book was told, gone through again.
func TestBookAgainstAllThatWasTold(t *testing.T) {
	r := rand.New(rand.NewSource(10))
	for range 200 {
		b := New()
		var all []told
		for range 60 {
			x := told{r.Intn(2) == 0, anyKey(r)}
			x.k.Term = terms[r.Intn(3)]
			all = append(all, x)
			if x.next {
				asksNext(t, b, x.k.Term, lastOf(all, x.k.Term))
			} else {
				b.Saw(x.k)
			}
			for _, term := range terms[:4] {
				asksLast(t, b, term, lastOf(all, term))
			}
		}
	}
}

// anyKey answers a key at random: most numbers near 0 or the greatest one, some above it.
func anyKey(r *rand.Rand) api.Key {
	k := key(uint16(r.Intn(1<<16)), 0)
	switch r.Intn(4) {
	case 0:
		k.Stan = uint32(r.Intn(20))
	case 1:
		k.Stan = greatest - 10 + uint32(r.Intn(14))
	case 2:
		k.Stan = uint32(r.Intn(greatest + 1))
	case 3:
		k.Stan = r.Uint32()
	}
	return k
}

// P10.3: the whole round of a terminal, with another one asked between.
func TestEachNumberComesOnce(t *testing.T) {
	b := New()
	came := make([]bool, greatest+1)
	for range greatest {
		k := b.Next(7)
		if k.Term != 7 || k.Stan < 1 || k.Stan > greatest || came[k.Stan] {
			t.Fatalf("%v came", k)
		}
		came[k.Stan] = true
		if k.Stan%1000 == 0 {
			asksNext(t, b, 8, k.Stan/1000)
		}
	}
	asksNext(t, b, 7, 1)
}

// P10.3: whatever is seen, what comes rises till it goes round, so none comes twice.
func TestWhatComesRises(t *testing.T) {
	r := rand.New(rand.NewSource(3))
	for range 100 {
		b := New()
		last := uint32(0)
		for range 2000 {
			b.Saw(key(5, uint32(r.Intn(int(last)+2))))
			b.Saw(key(5, beyond[r.Intn(len(beyond))]))
			if r.Intn(10) == 0 {
				b.Saw(key(5, last+uint32(r.Intn(5000))))
			}
			at := b.Last(5)
			if at == greatest {
				asksNext(t, b, 5, 1)
				break
			}
			k := b.Next(5)
			if at < last || k.Stan <= last || k.Stan > greatest {
				t.Fatalf("behind %d, at %d: %v", last, at, k)
			}
			last = k.Stan
		}
	}
}

// P10.2
func TestTextOfKeys(t *testing.T) {
	for _, x := range []struct {
		k    api.Key
		want string
	}{
		{key(0, 0), "-00000-000000"},
		{key(0, 1), "-00000-000001"},
		{key(1, 0), "-00001-000000"},
		{key(3, 2), "-00003-000002"},
		{key(12345, 678901), "-12345-678901"},
		{key(65535, 0), "-65535-000000"},
		{key(0, greatest), "-00000-999999"},
		{key(65535, greatest), "-65535-999999"},
		{key(65535, greatest+1), ""},
		{key(0, greatest+1), ""},
		{key(3, math.MaxUint32), ""},
	} {
		if got := Text(x.k); got != x.want {
			t.Errorf("Text(%v): %q", x.k, got)
		}
	}
}

// asksText fails the test where a key's text isn't what the library's format makes of it, or doesn't come back.
func asksText(t *testing.T, k api.Key) {
	t.Helper()
	want := fmt.Sprintf("-%05d-%06d", k.Term, k.Stan)
	if k.Stan > greatest {
		want = ""
	}
	if got := Text(k); got != want {
		t.Fatalf("Text(%v): %q, not %q", k, got, want)
	}
	if want == "" {
		return
	}
	if got, ok := Parse(want); !ok || got != k {
		t.Fatalf("Parse(%q): %v, %v", want, got, ok)
	}
}

// P10.2: each terminal, each number, and each two of those at the edges.
func TestTextComesBack(t *testing.T) {
	for term := range 1 << 16 {
		asksText(t, key(uint16(term), uint32(term)*15))
	}
	for number := range uint32(greatest + 1) {
		asksText(t, key(uint16(number%65536), number))
	}
	for _, term := range terms {
		for _, number := range append(append([]uint32(nil), within...), beyond...) {
			asksText(t, key(term, number))
		}
	}
	r := rand.New(rand.NewSource(2))
	for range 20000 {
		asksText(t, anyKey(r))
	}
}

// parse answers what Parse must: sign by sign, and the terminal's number by the library.
func parse(s string) (api.Key, bool) {
	const form = "-ddddd-dddddd"
	if len(s) != len(form) {
		return api.Key{}, false
	}
	for i := range len(form) {
		if digit := s[i] >= '0' && s[i] <= '9'; digit != (form[i] == 'd') || !digit && s[i] != form[i] {
			return api.Key{}, false
		}
	}
	term, err := strconv.ParseUint(s[1:6], 10, 16)
	if err != nil {
		return api.Key{}, false
	}
	number, err := strconv.Atoi(s[7:])
	return key(uint16(term), uint32(number)), err == nil
}

// asksParse fails the test where Parse doesn't answer what it must, or a text that is taken isn't its key's.
func asksParse(t *testing.T, s string) {
	t.Helper()
	want, right := parse(s)
	k, ok := Parse(s)
	if ok != right || k != want {
		t.Fatalf("Parse(%q): %v, %v, not %v, %v", s, k, ok, want, right)
	}
	if ok && Text(k) != s {
		t.Fatalf("Parse(%q): %v, whose text is %q", s, k, Text(k))
	}
}

// refuses fails the test where Parse takes s, or tells a key beside false.
func refuses(t *testing.T, s string) {
	t.Helper()
	if k, ok := Parse(s); ok || k != (api.Key{}) {
		t.Errorf("Parse(%q): %v, %v", s, k, ok)
	}
}

// P10.2
func TestParseRefuses(t *testing.T) {
	for _, s := range []string{
		"", "-", "--", "-00003", "-00003-", "-00003-00002", "-0003-000002", "-3-2", "-00003-0000002", "-000003-000002",
		"00003-000002", "00003-000002-", "--00003-00002", "-000030-00002", "-0003-0000002", "-00003--00002", "-00003000002-",
		"-65536-000001", "-65540-000001", "-66000-000001", "-70000-000001", "-99999-999999", "-65536-000000",
		"+00003-000002", "-00003+000002", "-+0003-000002", "--0003-000002", "-00003-+00002", "-00003--00002",
		" 00003-000002", "- 0003-000002", "-00003- 00002", "-00003 000002", "-00003-00002 ", "-00003-000002 ", " -00003-000002", "-00003-000002\n", "-00003-00002\x00",
		"-0x003-000002", "-00003-0x0002", "-0_003-000002", "-00003-1e0002", "-00003-00000x", "-0000a-000002", "-00003-00002\xb2", "-000\u0663-000002", "\u22123-000002\u2212", "a", "-----", "-------------", "0000000000000",
	} {
		refuses(t, s)
	}
}

// P10.2: of two keys' texts all that begins one and all that goes over, and each text behind another.
func TestParseOfTextsCutOffAndLonger(t *testing.T) {
	for _, s := range []string{"-00003-000002", "-00000-000000", "-65535-999999", "-12345-678901"} {
		asksParse(t, s)
		for cut := range len(s) {
			refuses(t, s[:cut])
			refuses(t, s[cut+1:])
			refuses(t, s[:cut]+s[cut+1:])
		}
		for sign := range 256 {
			for at := range len(s) + 1 {
				refuses(t, s[:at]+string([]byte{byte(sign)})+s[at:])
			}
		}
		refuses(t, s+s)
		refuses(t, s[:6]+s)
	}
}

// P10.2: each sign changed into each other one, in each place.
func TestParseOfTextsChanged(t *testing.T) {
	for _, s := range []string{"-00003-000002", "-00000-000000", "-65535-999999", "-65536-000001", "-12345-678901", "-09999-100000"} {
		for at := range len(s) {
			for sign := range 256 {
				changed := []byte(s)
				changed[at] = byte(sign)
				asksParse(t, string(changed))
			}
		}
	}
}

// P10.2: each terminal of five digits, of which those above the greatest one are none.
func TestParseOfEachTerminal(t *testing.T) {
	for term := range 100000 {
		s := fmt.Sprintf("-%05d-000012", term)
		k, ok := Parse(s)
		if ok != (term <= 65535) || ok && k != key(uint16(term), 12) || !ok && k != (api.Key{}) {
			t.Fatalf("Parse(%q): %v, %v", s, k, ok)
		}
	}
}

// P10.2: texts at random of the signs that keys' texts have, and of some others.
func TestParseOfTextsAtRandom(t *testing.T) {
	const signs = "0123456789--+ a"
	r := rand.New(rand.NewSource(5))
	for range 50000 {
		s := []byte(Text(key(uint16(r.Intn(1<<16)), uint32(r.Intn(greatest+1)))))
		for range r.Intn(3) {
			s[r.Intn(len(s))] = signs[r.Intn(len(signs))]
		}
		asksParse(t, string(s))
		s = s[:r.Intn(len(s)+1)]
		asksParse(t, string(s))
	}
}

// P10.2
func TestLessOfKeys(t *testing.T) {
	for _, x := range []struct {
		a, b api.Key
		want bool
	}{
		{key(0, 0), key(0, 0), false},
		{key(3, 2), key(3, 2), false},
		{key(65535, math.MaxUint32), key(65535, math.MaxUint32), false},
		{key(3, 2), key(4, 2), true},
		{key(4, 2), key(3, 2), false},
		{key(3, 2), key(3, 3), true},
		{key(3, 3), key(3, 2), false},
		{key(3, 9), key(4, 2), true},
		{key(4, 2), key(3, 9), false},
		{key(3, 2), key(4, 9), true},
		{key(4, 9), key(3, 2), false},
		{key(255, 0), key(256, 0), true},
		{key(32767, 0), key(32768, 0), true},
		{key(0, 1<<31-1), key(0, 1<<31), true},
		{key(0, 1<<31), key(0, 1<<31-1), false},
		{key(0, math.MaxUint32), key(1, 0), true},
		{key(0, math.MaxUint32), key(65535, 0), true},
		{key(65535, 0), key(0, math.MaxUint32), false},
		{key(0, 0), key(0, math.MaxUint32), true},
	} {
		if got := Less(x.a, x.b); got != x.want {
			t.Errorf("Less(%v, %v): %v", x.a, x.b, got)
		}
	}
}

// P10.2: each two keys at the edges against one number of them both; where they have texts, these stand in the same order.
func TestLessOfEachTwo(t *testing.T) {
	var keys []api.Key
	for _, term := range terms {
		for _, number := range append(append([]uint32(nil), within...), beyond...) {
			keys = append(keys, key(term, number))
		}
	}
	for _, a := range keys {
		for _, b := range keys {
			asksLess(t, a, b)
		}
	}
}

// P10.2: keys at random, most of which have the same terminal or the same number.
func TestLessAtRandom(t *testing.T) {
	r := rand.New(rand.NewSource(4))
	for range 50000 {
		a, b := anyKey(r), anyKey(r)
		asksLess(t, a, b)
		asksLess(t, a, key(a.Term, b.Stan))
		asksLess(t, a, key(b.Term, a.Stan))
		asksLess(t, a, a)
	}
}

// asksLess fails the test where Less of two keys isn't that of the two as one number each, or of their texts.
func asksLess(t *testing.T, a, b api.Key) {
	t.Helper()
	whole := func(k api.Key) uint64 { return uint64(k.Term)*(1<<32) + uint64(k.Stan) }
	got := Less(a, b)
	if got != (whole(a) < whole(b)) {
		t.Fatalf("Less(%v, %v): %v", a, b, got)
	}
	if a.Stan <= greatest && b.Stan <= greatest && got != (Text(a) < Text(b)) {
		t.Fatalf("Less(%v, %v): %v, but of the texts %q, %q", a, b, got, Text(a), Text(b))
	}
}
