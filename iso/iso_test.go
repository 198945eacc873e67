package iso

import (
	"bytes"
	"encoding/hex"
	"fmt"
	"math"
	"math/rand"
	"reflect"
	"sort"
	"strings"
	"testing"

	"guichet/api"
)

// types are the types that there are, as the chapter lists them.
var types = []int{100, 110, 200, 210, 420, 430, 800, 810}

// replies are the types that are answered, and by which.
var replies = map[int]int{100: 110, 200: 210, 420: 430, 800: 810}

// form is what a field's values look like: of digits, how long, how many digits of a length ahead.
type form struct {
	digits     bool
	length, of int
}

// forms are the fields' forms, as chapter 8 lists them.
var forms = map[int]form{
	2: {true, 19, 2}, 3: {true, 6, 0}, 4: {true, 12, 0}, 7: {true, 10, 0}, 11: {true, 6, 0}, 12: {true, 6, 0}, 13: {true, 4, 0}, 49: {true, 3, 0}, 70: {true, 3, 0}, 90: {true, 42, 0},
	37: {false, 12, 0}, 38: {false, 6, 0}, 39: {false, 2, 0}, 41: {false, 8, 0}, 42: {false, 15, 0}, 54: {false, 120, 3}, 60: {false, 999, 3}, 95: {false, 42, 0},
}

// numbers are the numbers of the fields that there are, in order.
var numbers = inOrder()

// faraway are numbers that no type and no field has, for all that their last bits may say.
var faraway = []int{math.MinInt, math.MinInt + 1, math.MinInt + 100, -1 << 40, -1<<32 + 200, -1 << 31, -65536 + 800, -10000, -9900, -1, 10000, 10100, 10200, 20800, 65536 + 100, 65536 + 200, 1<<31 + 420, 1<<32 + 100, 1<<32 + 200, 1<<32 + 800, 1<<32 + 2, 1<<32 + 39, 1 << 40, 1<<63 - 1000, math.MaxInt - 1, math.MaxInt}

func inOrder() []int {
	var out []int
	for n := range forms {
		out = append(out, n)
	}
	sort.Ints(out)
	return out
}

// message answers the message of that type and those fields.
func message(mti int, fields ...api.Field) api.Iso {
	return api.Iso{MTI: mti, F: fields}
}

// one answers the field n with the value v.
func one(n int, v string) api.Field {
	return api.Field{N: n, V: v}
}

// same answers whether two messages are the same, a list that is nil and one that is empty too.
func same(a, b api.Iso) bool {
	return a.MTI == b.MTI && len(a.F) == len(b.F) && (len(a.F) == 0 || reflect.DeepEqual(a.F, b.F))
}

// valueRight answers whether v is a value of field n.
func valueRight(n int, v string) bool {
	f, ok := forms[n]
	if !ok || len(v) < 1 || len(v) > f.length || f.of == 0 && len(v) != f.length {
		return false
	}
	for _, c := range []byte(v) {
		if f.digits && (c < '0' || c > '9') || c < ' ' || c > '~' {
			return false
		}
	}
	return true
}

// right answers what Right must: each field against all that stand ahead of it.
func right(m api.Iso) bool {
	found := false
	for _, mti := range types {
		found = found || mti == m.MTI
	}
	for i, f := range m.F {
		for _, ahead := range m.F[:i] {
			found = found && ahead.N < f.N
		}
		found = found && valueRight(f.N, f.V)
	}
	return found
}

// put answers what Put must, worked out from a text of hexadecimal digits and one of bits.
func put(m api.Iso) ([]byte, api.Errno) {
	if !right(m) {
		return nil, api.ErrField
	}
	bits := strings.Split(strings.Repeat("0", 128), "")
	halves := 1
	values := ""
	for _, f := range m.F {
		bits[f.N-1] = "1"
		if f.N > 64 {
			bits[0], halves = "1", 2
		}
		values += valueText(f)
	}
	text := fmt.Sprintf("%04d", m.MTI)
	for half := range halves {
		var number uint64
		fmt.Sscanf(strings.Join(bits[64*half:64*half+64], ""), "%b", &number)
		text += fmt.Sprintf("%016x", number)
	}
	b, err := hex.DecodeString(text + values)
	if err != nil {
		panic(err)
	}
	return b, api.OK
}

// valueText answers the hexadecimal digits of a field's bytes.
func valueText(f api.Field) string {
	text := []string{"", "", "%02d", "%04d"}[forms[f.N].of]
	if text != "" {
		text = fmt.Sprintf(text, len(f.V))
	}
	if forms[f.N].digits {
		return text + strings.Repeat("0", len(f.V)%2) + f.V
	}
	return text + fmt.Sprintf("%x", f.V)
}

// read answers what Read must: what b seems to be, if just that makes b.
func read(b []byte) (api.Iso, api.Errno) {
	m := guess(hex.EncodeToString(b))
	if back, e := put(m); e == api.OK && bytes.Equal(back, b) {
		return m, api.OK
	}
	return api.Iso{}, api.ErrBytes
}

// guess takes a text of hexadecimal digits for a message, without asking whether it is one.
func guess(text string) api.Iso {
	var m api.Iso
	number := func(digits int) int {
		var v int
		if len(text) < digits {
			text = ""
			return 0
		}
		fmt.Sscanf(text[:digits], "%d", &v)
		text = text[digits:]
		return v
	}
	m.MTI = number(4)
	bits := ""
	for halves := 1; halves > 0 && len(text) >= 16; halves-- {
		var half uint64
		fmt.Sscanf(text[:16], "%x", &half)
		text = text[16:]
		if bits == "" && half>>63 == 1 {
			halves++
		}
		bits += fmt.Sprintf("%064b", half)
	}
	for i := 1; i < len(bits); i++ {
		f := forms[i+1]
		if bits[i] == '0' {
			continue
		}
		length := f.length
		if f.of > 0 {
			length = number(f.of + f.of%2)
		}
		took := 2 * length
		if f.digits {
			took = length + length%2
		}
		if took < 0 || took > len(text) {
			return m
		}
		v := text[took-length : took]
		if f.digits {
			v = text[length%2 : took]
		} else {
			signs, _ := hex.DecodeString(text[:took])
			v = string(signs)
		}
		m.F = append(m.F, one(i+1, v))
		text = text[took:]
	}
	return m
}

// asksPut holds Right and Put of m against what they must answer, and that m is as it was.
func asksPut(t *testing.T, m api.Iso) {
	t.Helper()
	as := message(m.MTI, append([]api.Field(nil), m.F...)...)
	if got := Right(m); got != right(m) {
		t.Fatalf("Right(%v): %v", m, got)
	}
	want, wantE := put(m)
	if b, e := Put(m); !bytes.Equal(b, want) || e != wantE {
		t.Fatalf("Put(%v): %x, %d; want %x, %d", m, b, e, want, wantE)
	}
	if !same(m, as) {
		t.Fatalf("%v was %v ahead of Put", m, as)
	}
}

// asksRead holds Read of b against what it must answer, and that b is as it was.
func asksRead(t *testing.T, b []byte) {
	t.Helper()
	as := bytes.Clone(b)
	want, wantE := read(b)
	m, e := Read(b)
	if !same(m, want) || e != wantE {
		t.Fatalf("Read(%x): %v, %d; want %v, %d", b, m, e, want, wantE)
	}
	if !bytes.Equal(b, as) {
		t.Fatalf("%x was %x ahead of Read", b, as)
	}
}

// asksBack asks that m comes back from its bytes, and from nothing less or more.
func asksBack(t *testing.T, m api.Iso) {
	t.Helper()
	asksPut(t, m)
	b, e := Put(m)
	if e != api.OK {
		t.Fatalf("Put(%v): %d", m, e)
	}
	if got, e := Read(b); !same(got, m) || e != api.OK {
		t.Fatalf("Read(Put(%v)): %v, %d", m, got, e)
	}
	for length := range b {
		asksNone(t, b[:length])
	}
	for _, behind := range []string{"\x00", "\xff", "0", "\x01\x00", "00", strings.Repeat("\x00", 8), strings.Repeat("1", 16)} {
		asksNone(t, append(bytes.Clone(b), behind...))
	}
	asksNone(t, append(bytes.Clone(b), b...))
}

// asksNone asks that b is no message.
func asksNone(t *testing.T, b []byte) {
	t.Helper()
	if m, e := Read(b); !same(m, api.Iso{}) || e != api.ErrBytes {
		t.Fatalf("Read(%x): %v, %d", b, m, e)
	}
}

// asksRefused asks that m isn't right, has no bytes, and takes no value.
func asksRefused(t *testing.T, m api.Iso) {
	t.Helper()
	asksPut(t, m)
	if Right(m) {
		t.Fatalf("Right(%v)", m)
	}
	if b, e := Put(m); len(b) != 0 || e != api.ErrField {
		t.Fatalf("Put(%v): %x, %d", m, b, e)
	}
	for _, n := range numbers {
		if got, e := Set(m, n, plain(n).V); !same(got, api.Iso{}) || e != api.ErrField {
			t.Fatalf("Set(%v, %d): %v, %d", m, n, got, e)
		}
	}
}

// asksSet holds Set against what it must answer, worked out by sorting, and that m is as it was.
func asksSet(t *testing.T, m api.Iso, n int, v string) {
	t.Helper()
	as := message(m.MTI, append([]api.Field(nil), m.F...)...)
	want, wantE := api.Iso{}, api.ErrField
	if right(m) && valueRight(n, v) {
		want, wantE = message(m.MTI, one(n, v)), api.OK
		for _, f := range m.F {
			if f.N != n {
				want.F = append(want.F, f)
			}
		}
		sort.Slice(want.F, func(i, k int) bool { return want.F[i].N < want.F[k].N })
	}
	got, e := Set(m, n, v)
	if !same(got, want) || e != wantE {
		t.Fatalf("Set(%v, %d, %q): %v, %d; want %v, %d", m, n, v, got, e, want, wantE)
	}
	if !same(m, as) {
		t.Fatalf("%v was %v ahead of Set", m, as)
	}
	if e != api.OK {
		return
	}
	if back, ok := Get(got, n); back != v || !ok || !Right(got) {
		t.Fatalf("Get(%v, %d): %q, %v", got, n, back, ok)
	}
}

// plain answers field n with a short value.
func plain(n int) api.Field {
	f := forms[n]
	length := f.length
	if f.of > 0 {
		length = 3
	}
	return one(n, strings.Repeat("123", 14)[:length])
}

// some answers field n with a value at random: of a length that it may have, mostly a short one.
func some(r *rand.Rand, n int) api.Field {
	f := forms[n]
	length := f.length
	if f.of > 0 && r.Intn(4) > 0 {
		length = min(length, 5)
	}
	if f.of > 0 {
		length = 1 + r.Intn(length)
	}
	v := make([]byte, length)
	for i := range v {
		v[i] = byte(' ' + r.Intn('~'-' '+1))
		if f.digits {
			v[i] = byte('0' + r.Intn(10))
		}
	}
	return one(n, string(v))
}

// someMessage answers a right message at random.
func someMessage(r *rand.Rand) api.Iso {
	m := message(types[r.Intn(len(types))])
	often := 1 + r.Intn(len(numbers))
	for _, n := range numbers {
		if r.Intn(len(numbers)) < often {
			m.F = append(m.F, some(r, n))
		}
	}
	return m
}

// all answers each field that there is, with a short value.
func all() []api.Field {
	var out []api.Field
	for _, n := range numbers {
		out = append(out, plain(n))
	}
	return out
}

// messages answers right messages of no field, of one, of two, and of all.
func messages() []api.Iso {
	out := []api.Iso{message(100), message(430, all()...)}
	for i, n := range numbers {
		out = append(out, message(types[i%len(types)], plain(n)))
		for _, k := range numbers[i+1:] {
			out = append(out, message(types[k%len(types)], plain(n), plain(k)))
		}
	}
	return out
}

// listed answers whether the chapter lists the type.
func listed(mti int) bool {
	return right(message(mti))
}

// P9.1: the chapter's example, and messages whose bytes are written out.
func TestPutAtTheEdges(t *testing.T) {
	none := strings.Repeat("\x00", 8)
	for _, x := range []struct {
		m    api.Iso
		want string
	}{
		{message(800, one(70, "301")), "\x08\x00" + "\x80\x00\x00\x00\x00\x00\x00\x00" + "\x04\x00\x00\x00\x00\x00\x00\x00" + "\x03\x01"},
		{message(800, one(70, "000")), "\x08\x00" + "\x80\x00\x00\x00\x00\x00\x00\x00" + "\x04\x00\x00\x00\x00\x00\x00\x00" + "\x00\x00"},
		{message(100), "\x01\x00" + none}, {message(110), "\x01\x10" + none}, {message(200), "\x02\x00" + none}, {message(210), "\x02\x10" + none},
		{message(420), "\x04\x20" + none}, {message(430), "\x04\x30" + none}, {message(800), "\x08\x00" + none}, {message(810), "\x08\x10" + none},
		{message(100, one(2, "5")), "\x01\x00" + "\x40\x00\x00\x00\x00\x00\x00\x00" + "\x01\x05"},
		{message(110, one(60, "a b")), "\x01\x10" + "\x00\x00\x00\x00\x00\x00\x00\x10" + "\x00\x03a b"},
		{message(430, one(95, strings.Repeat("7", 42))), "\x04\x30" + "\x80\x00\x00\x00\x00\x00\x00\x00" + "\x00\x00\x00\x02\x00\x00\x00\x00" + strings.Repeat("7", 42)},
		{message(420, one(90, strings.Repeat("12", 21)), one(95, strings.Repeat(" ", 42))), "\x04\x20" + "\x80\x00\x00\x00\x00\x00\x00\x00" + "\x00\x00\x00\x42\x00\x00\x00\x00" + strings.Repeat("\x12", 21) + strings.Repeat(" ", 42)},
		{message(200, one(3, "010000"), one(4, "000000001205"), one(11, "000001"), one(41, "T0000012"), one(49, "978")), "\x02\x00" + "\x30\x20\x00\x00\x00\x80\x80\x00" + "\x01\x00\x00" + "\x00\x00\x00\x00\x12\x05" + "\x00\x00\x01" + "T0000012" + "\x09\x78"},
	} {
		if b, e := Put(x.m); string(b) != x.want || e != api.OK || !Right(x.m) {
			t.Errorf("Put(%v): %q, %d; want %q", x.m, b, e, x.want)
		}
		asksBack(t, x.m)
	}
}

// P9.1: each number about the types is one, or none; the same with fields.
func TestTypes(t *testing.T) {
	about := append([]int(nil), faraway...)
	for mti := -1000; mti <= 11000; mti++ {
		about = append(about, mti)
	}
	for _, mti := range about {
		for _, m := range []api.Iso{message(mti), message(mti, one(39, "00")), message(mti, one(11, "000007"), one(70, "301"))} {
			asksPut(t, m)
			asksSet(t, m, 39, "51")
		}
	}
	if len(types) != 8 {
		t.Fatalf("%d types", len(types))
	}
	for _, mti := range types {
		if !Right(message(mti)) {
			t.Errorf("Right(%d)", mti)
		}
	}
	for _, mti := range append([]int{0, 1, 10, 11, 20, 42, 80, 99, 101, 109, 111, 120, 199, 201, 209, 211, 220, 400, 410, 419, 421, 429, 431, 799, 801, 809, 811, 820, 900, 1000, 1100, 2000, 4200, 8000, 8100, 9999, -100, -110, -200, -210, -420, -430, -800, -810}, faraway...) {
		asksRefused(t, message(mti))
		asksRefused(t, message(mti, all()...))
	}
}

// P9.2: each number about the types is answered, or isn't.
func TestReply(t *testing.T) {
	about := append([]int(nil), faraway...)
	for mti := -1000; mti <= 11000; mti++ {
		about = append(about, mti)
	}
	for _, mti := range about {
		want, wantOK := replies[mti]
		if got, ok := Reply(mti); got != want || ok != wantOK {
			t.Errorf("Reply(%d): %d, %v; want %d, %v", mti, got, ok, want, wantOK)
		}
	}
	for _, mti := range types {
		got, ok := Reply(mti)
		if back, again := Reply(got); ok && (!listed(got) || back != 0 || again) {
			t.Errorf("Reply(%d): %d, and that is answered by %d", mti, got, back)
		}
	}
}

// P9.1: fields of equal numbers, of numbers that fall, that there aren't, of wrong values, in each place.
func TestRefused(t *testing.T) {
	wrong := []api.Field{{}, one(0, "0"), one(1, ""), one(1, "0"), one(5, "0"), one(5, "000000"), one(6, "1"), one(38, "12345"), one(38, "1234567"), one(39, ""), one(39, "0"), one(39, "000"), one(39, "0\x1f"), one(39, "\x7f0"), one(11, "00000x"), one(11, "0000001"), one(2, ""), one(2, strings.Repeat("1", 20)), one(54, ""), one(54, strings.Repeat("a", 121)), one(60, strings.Repeat("a", 1000)), one(60, "ö"), one(64, "00"), one(65, "00"), one(96, "00"), one(127, "0"), one(128, "0"), one(129, "0"), one(-2, "1"), one(-39, "00"), one(256+39, "00"), one(1<<32+39, "00"), one(math.MinInt, "00"), one(math.MaxInt, "00")}
	for _, base := range []api.Iso{message(100), message(200, one(4, "000000000600")), message(210, one(2, "51"), one(39, "00"), one(70, "301")), message(430, all()...)} {
		if !Right(base) {
			t.Fatalf("Right(%v): false", base)
		}
		for at := range len(base.F) + 1 {
			for _, f := range wrong {
				asksRefused(t, with(base, at, f))
			}
		}
		for at := range base.F {
			f := base.F[at]
			asksRefused(t, with(base, at, f))
			asksRefused(t, with(base, at+1, plain(f.N)))
			asksRefused(t, with(base, at, one(f.N, f.V+"\x00")))
		}
		for i := range base.F {
			for k := range base.F[:i] {
				m := message(base.MTI, append([]api.Field(nil), base.F...)...)
				m.F[i], m.F[k] = m.F[k], m.F[i]
				asksRefused(t, m)
			}
		}
	}
	asksRefused(t, api.Iso{})
	asksRefused(t, message(200, one(39, "00"), one(11, "000001")))
	asksRefused(t, message(200, one(39, "00"), one(39, "00")))
	asksRefused(t, message(200, one(3, "000000"), one(70, "301"), one(39, "00")))
	asksRefused(t, message(200, one(3, "000000"), one(39, "00"), one(3, "000000")))
}

// with answers m with the field f laid at that place, in order or not.
func with(m api.Iso, at int, f api.Field) api.Iso {
	fields := append([]api.Field(nil), m.F[:at]...)
	return message(m.MTI, append(append(fields, f), m.F[at:]...)...)
}

// P9.1: each two fields are right in the one order, and not in the other one.
func TestEachTwoFields(t *testing.T) {
	for n := -1; n <= 130; n++ {
		asksPut(t, message(200, one(n, "00")))
		for _, k := range numbers {
			first, second := plain(k), one(n, "00")
			if _, ok := forms[n]; ok {
				second = plain(n)
			}
			asksPut(t, message(100, first, second))
			asksPut(t, message(100, second, first))
			asksSet(t, message(100, first), n, second.V)
		}
	}
}

// P9.1, P9.3: messages of no field, one, two, all come back, and from nothing less or more.
func TestMessagesComeBack(t *testing.T) {
	for _, m := range messages() {
		asksBack(t, m)
	}
	for _, mti := range types {
		asksBack(t, message(mti))
		asksBack(t, message(mti, all()...))
	}
	long := message(210, all()...)
	for i, f := range long.F {
		long.F[i].V = strings.Repeat("9", forms[f.N].length)
	}
	asksBack(t, long)
	for i := range long.F {
		if forms[long.F[i].N].of > 0 {
			long.F[i].V = "0"
		}
	}
	asksBack(t, long)
}

// P9.1: a nil list of fields and an empty one are the same, and so are no bytes.
func TestNothing(t *testing.T) {
	for _, mti := range types {
		a, e := Put(api.Iso{MTI: mti})
		b, e2 := Put(api.Iso{MTI: mti, F: []api.Field{}})
		if !bytes.Equal(a, b) || len(a) != 10 || e != api.OK || e2 != api.OK {
			t.Errorf("Put(%d): %x, %d; %x, %d", mti, a, e, b, e2)
		}
	}
	asksNone(t, nil)
	asksNone(t, []byte{})
}

// P9.1: each two first bytes are a type, or not, whatever stands behind them.
func TestReadOfEachType(t *testing.T) {
	for first := range 1 << 16 {
		b := []byte{byte(first >> 8), byte(first), 0, 0, 0, 0, 0, 0, 0, 0}
		text := hex.EncodeToString(b[:2])
		want := 0
		for _, mti := range types {
			if text == fmt.Sprintf("%04d", mti) {
				want = mti
			}
		}
		m, e := Read(b)
		if !same(m, message(want)) || (e == api.OK) != (want != 0) || want == 0 && e != api.ErrBytes {
			t.Fatalf("Read(%x): %v, %d", b, m, e)
		}
		asksNone(t, b[:2])
		asksNone(t, b[:9])
	}
}

// P9.1: a bitmap with numbers of which there is no field is none, whatever stands behind it.
func TestReadOfNoSuchField(t *testing.T) {
	for n := 1; n <= 128; n++ {
		if _, ok := forms[n]; ok {
			continue
		}
		for _, with := range [][]int{nil, {2}, {39}, {95}, {3, 70}, numbers} {
			bits := make([]byte, 8)
			if n > 64 || n == 1 || len(with) > 0 && with[len(with)-1] > 64 {
				bits = make([]byte, 16)
				bits[0] = 0x80
			}
			for _, k := range append([]int{n}, with...) {
				bits[(k-1)/8] |= 0x80 >> ((k - 1) % 8)
			}
			// A lone first bit with a second half of right numbers is no fault.
			if n == 1 && len(with) > 0 && with[len(with)-1] > 64 {
				continue
			}
			for _, behind := range []string{"", "0", "00", "\x00\x00", "\x01\x01", strings.Repeat("\x01", 21), strings.Repeat("0", 42), strings.Repeat("\x00\x01", 200)} {
				b := append([]byte{2, 0}, append(bits, behind...)...)
				asksNone(t, b)
				asksRead(t, b)
			}
		}
	}
}

// P9.1, P9.3: a long bitmap that a short one would do for is none, and so is a short one of a long one's numbers.
func TestReadOfOtherBitmaps(t *testing.T) {
	for _, m := range messages() {
		b, _ := Put(m)
		if b[2]&0x80 == 0 {
			b[2] |= 0x80
			asksNone(t, b)
			b = append(bytes.Clone(b[:10]), append(make([]byte, 8), b[10:]...)...)
			asksNone(t, b)
			b[2] &^= 0x80
			asksNone(t, b)
			continue
		}
		b[2] &^= 0x80
		asksNone(t, b)
		asksNone(t, append(bytes.Clone(b[:10]), b[18:]...))
	}
	for mti := range 100 {
		b := []byte{byte(mti / 10 << 4), 0, 0x80, 0, 0, 0, 0, 0, 0, 0, 0, 0, 0, 0, 0, 0, 0, 0}
		asksNone(t, b)
	}
}

// P9.1: bytes that are told one by one.
func TestReadAtTheEdges(t *testing.T) {
	none := strings.Repeat("\x00", 8)
	for _, x := range []struct {
		b    string
		want api.Iso
		e    api.Errno
	}{
		{"", api.Iso{}, api.ErrBytes}, {"\x02", api.Iso{}, api.ErrBytes}, {"\x02\x00", api.Iso{}, api.ErrBytes}, {"\x02\x00" + none[1:], api.Iso{}, api.ErrBytes}, {"\x02\x00" + none, message(200), api.OK}, {"\x02\x00" + none + "\x00", api.Iso{}, api.ErrBytes},
		{"\x00\x00" + none, api.Iso{}, api.ErrBytes}, {"\x02\x20" + none, api.Iso{}, api.ErrBytes}, {"\x20\x00" + none, api.Iso{}, api.ErrBytes}, {"\x01\xa0" + none, api.Iso{}, api.ErrBytes}, {"\x00\xc8" + none, api.Iso{}, api.ErrBytes}, {"\x0a\x00" + none, api.Iso{}, api.ErrBytes}, {"\xf8\x00" + none, api.Iso{}, api.ErrBytes}, {"\x12\x00" + none, api.Iso{}, api.ErrBytes}, {"0200" + none, api.Iso{}, api.ErrBytes}, {"\x01\x0a" + none, api.Iso{}, api.ErrBytes}, {"\x00\x02" + none, api.Iso{}, api.ErrBytes},
		{"\x02\x00" + "\x00\x00\x00\x00\x02\x00\x00\x00" + "51", message(200, one(39, "51")), api.OK}, {"\x02\x00" + "\x00\x00\x00\x00\x02\x00\x00\x00" + "5", api.Iso{}, api.ErrBytes}, {"\x02\x00" + "\x00\x00\x00\x00\x02\x00\x00\x00" + "512", api.Iso{}, api.ErrBytes}, {"\x02\x00" + "\x00\x00\x00\x00\x02\x00\x00\x00" + "5\x7f", api.Iso{}, api.ErrBytes}, {"\x02\x00" + "\x00\x00\x00\x00\x02\x00\x00\x00", api.Iso{}, api.ErrBytes},
		{"\x02\x00" + "\x40\x00\x00\x00\x00\x00\x00\x00" + "\x01\x05", message(200, one(2, "5")), api.OK}, {"\x02\x00" + "\x40\x00\x00\x00\x00\x00\x00\x00" + "\x01\x15", api.Iso{}, api.ErrBytes}, {"\x02\x00" + "\x40\x00\x00\x00\x00\x00\x00\x00" + "\x00", api.Iso{}, api.ErrBytes}, {"\x02\x00" + "\x40\x00\x00\x00\x00\x00\x00\x00" + "\x20" + strings.Repeat("\x11", 10), api.Iso{}, api.ErrBytes},
		{"\x02\x00" + "\x40\x00\x00\x00\x02\x00\x00\x00" + "\x02\x5100", message(200, one(2, "51"), one(39, "00")), api.OK}, {"\x02\x00" + "\x40\x00\x00\x00\x02\x00\x00\x00" + "00\x02\x51", api.Iso{}, api.ErrBytes}, {"\x02\x00" + "\x40\x00\x00\x00\x02\x00\x00\x00" + "\x04\x5100", api.Iso{}, api.ErrBytes},
		{"\x08\x00" + "\x80\x00\x00\x00\x00\x00\x00\x00" + "\x04\x00\x00\x00\x00\x00\x00\x00" + "\x03\x01", message(800, one(70, "301")), api.OK}, {"\x08\x00" + "\x80\x00\x00\x00\x00\x00\x00\x00" + "\x04\x00\x00\x00\x00\x00\x00\x00" + "\x13\x01", api.Iso{}, api.ErrBytes}, {"\x08\x00" + "\x80\x00\x00\x00\x00\x00\x00\x00" + "\x04\x00\x00\x00\x00\x00\x00", api.Iso{}, api.ErrBytes}, {"\x08\x00" + "\x80\x00\x00\x00\x00\x00\x00\x00" + none, api.Iso{}, api.ErrBytes}, {"\x08\x00" + "\x80\x00\x00\x00\x00\x00\x00\x00" + "\x00\x00\x00\x00\x00\x00\x00\x01" + "00", api.Iso{}, api.ErrBytes},
	} {
		if m, e := Read([]byte(x.b)); !same(m, x.want) || e != x.e {
			t.Errorf("Read(%q): %v, %d; want %v, %d", x.b, m, e, x.want, x.e)
		}
		asksRead(t, []byte(x.b))
	}
}

// P9.1, P9.3: what Put makes, with each byte changed in each place, is another message, or none.
func TestEachByteChanged(t *testing.T) {
	for _, m := range []api.Iso{message(100), message(810), message(800, one(70, "301")), message(210, one(2, "51"), one(39, "00")), message(110, one(2, "1234567"), one(54, "ab"), one(60, "x")), message(200, one(3, "010000"), one(4, "000000001205"), one(11, "000001"), one(41, "T0000012"), one(49, "978")), message(420, all()...)} {
		b, e := Put(m)
		if e != api.OK {
			t.Fatalf("Put(%v): %d", m, e)
		}
		for at := range b {
			for c := range 256 {
				changed := bytes.Clone(b)
				changed[at] = byte(c)
				asksRead(t, changed)
				got, e := Read(changed)
				if byte(c) != b[at] && e == api.OK && same(got, m) {
					t.Fatalf("%x and %x are both %v", b, changed, m)
				}
			}
		}
	}
}

// P9.1, P9.3: messages at random come back, and what becomes of them by chance is a message, or none.
func TestMessagesAtRandom(t *testing.T) {
	r := rand.New(rand.NewSource(91))
	for range 3000 {
		m := someMessage(r)
		asksPut(t, m)
		b, _ := Put(m)
		if got, e := Read(b); !same(got, m) || e != api.OK {
			t.Fatalf("Read(Put(%v)): %v, %d", m, got, e)
		}
		for range 10 {
			changed := bytes.Clone(b)
			switch at := r.Intn(len(b)); r.Intn(5) {
			case 0:
				changed[at] ^= 1 << r.Intn(8)
			case 1:
				changed[at] = byte(r.Intn(256))
			case 2:
				changed = append(changed[:at], changed[at+1:]...)
			case 3:
				changed = append(changed[:at:at], b[r.Intn(len(b)):]...)
			default:
				changed[r.Intn(min(18, len(b)))] ^= 1 << r.Intn(8)
			}
			asksRead(t, changed)
		}
	}
}

// P9.1: bytes at random, behind a type that there is and a bitmap of fields that there mostly are.
func TestBytesAtRandom(t *testing.T) {
	r := rand.New(rand.NewSource(92))
	for range 20000 {
		head, _ := Put(message(types[r.Intn(len(types))], all()...))
		head = head[:18]
		for range r.Intn(40) {
			head[2+r.Intn(16)] &= byte(r.Intn(256))
		}
		if r.Intn(2) == 0 {
			head[2] &^= 0x80
			head = head[:10]
		}
		behind := make([]byte, r.Intn(30))
		for i := range behind {
			behind[i] = byte(r.Intn(10) | r.Intn(10)<<4)
		}
		asksRead(t, append(head, behind...))
		for i := range behind {
			behind[i] = byte(r.Intn(256))
		}
		asksRead(t, behind)
	}
}

// P9.2: a field that there is, that there isn't, that there is twice; of messages that are right or not.
func TestGet(t *testing.T) {
	right := message(200, one(2, "51"), one(39, "00"), one(70, "301"))
	twice := message(0, one(39, "00"), one(11, "x"), one(39, "51"), one(-5, "less"), one(5, ""), one(5, "no"), one(math.MaxInt, "far"), one(math.MinInt, "farther"))
	for _, x := range []struct {
		m    api.Iso
		n    int
		want string
		ok   bool
	}{
		{right, 2, "51", true}, {right, 39, "00", true}, {right, 70, "301", true}, {right, 3, "", false}, {right, 1, "", false}, {right, 0, "", false}, {right, -2, "", false}, {right, 128, "", false}, {right, 129, "", false}, {right, 256 + 39, "", false}, {right, 1<<32 + 39, "", false}, {right, math.MinInt, "", false}, {right, math.MaxInt, "", false},
		{twice, 39, "00", true}, {twice, 11, "x", true}, {twice, -5, "less", true}, {twice, 5, "", true}, {twice, 2, "", false}, {twice, 0, "", false}, {twice, math.MaxInt, "far", true}, {twice, math.MinInt, "farther", true},
		{api.Iso{}, 0, "", false}, {api.Iso{}, 2, "", false}, {message(200), 39, "", false}, {message(200, api.Field{}), 0, "", true},
		{message(200, one(70, "301"), one(3, "a"), one(3, "b")), 3, "a", true}, {message(200, one(70, "301"), one(3, ""), one(3, "b")), 3, "", true},
	} {
		if v, ok := Get(x.m, x.n); v != x.want || ok != x.ok {
			t.Errorf("Get(%v, %d): %q, %v; want %q, %v", x.m, x.n, v, ok, x.want, x.ok)
		}
	}
	whole := message(430, all()...)
	for n := -3; n <= 140; n++ {
		v, ok := Get(whole, n)
		if _, is := forms[n]; ok != is || is && v != plain(n).V || !is && v != "" {
			t.Errorf("Get(all, %d): %q, %v", n, v, ok)
		}
	}
}

// P9.2: a new field at the beginning, between, at the end, in the place of another one; and what isn't right.
func TestSetAtTheEdges(t *testing.T) {
	m := message(200, one(3, "010000"), one(39, "00"))
	for _, x := range []struct {
		n    int
		v    string
		want api.Iso
		e    api.Errno
	}{
		{2, "5", message(200, one(2, "5"), one(3, "010000"), one(39, "00")), api.OK}, {3, "020000", message(200, one(3, "020000"), one(39, "00")), api.OK}, {3, "010000", m, api.OK}, {4, "000000000600", message(200, one(3, "010000"), one(4, "000000000600"), one(39, "00")), api.OK}, {38, "abcdef", message(200, one(3, "010000"), one(38, "abcdef"), one(39, "00")), api.OK},
		{39, "51", message(200, one(3, "010000"), one(39, "51")), api.OK}, {41, "T0000001", message(200, one(3, "010000"), one(39, "00"), one(41, "T0000001")), api.OK}, {70, "301", message(200, one(3, "010000"), one(39, "00"), one(70, "301")), api.OK}, {95, strings.Repeat("x", 42), message(200, one(3, "010000"), one(39, "00"), one(95, strings.Repeat("x", 42))), api.OK},
		{2, "", api.Iso{}, api.ErrField}, {2, strings.Repeat("1", 20), api.Iso{}, api.ErrField}, {3, "", api.Iso{}, api.ErrField}, {3, "01000", api.Iso{}, api.ErrField}, {3, "01000x", api.Iso{}, api.ErrField}, {39, "", api.Iso{}, api.ErrField}, {39, "000", api.Iso{}, api.ErrField}, {39, "\x1f0", api.Iso{}, api.ErrField}, {70, "0301", api.Iso{}, api.ErrField},
		{0, "", api.Iso{}, api.ErrField}, {1, "", api.Iso{}, api.ErrField}, {1, "00", api.Iso{}, api.ErrField}, {5, "00", api.Iso{}, api.ErrField}, {40, "00", api.Iso{}, api.ErrField}, {128, "00", api.Iso{}, api.ErrField}, {129, "00", api.Iso{}, api.ErrField}, {-39, "00", api.Iso{}, api.ErrField}, {256 + 39, "00", api.Iso{}, api.ErrField}, {1<<32 + 39, "00", api.Iso{}, api.ErrField}, {math.MinInt, "00", api.Iso{}, api.ErrField}, {math.MaxInt, "00", api.Iso{}, api.ErrField},
	} {
		if got, e := Set(m, x.n, x.v); !same(got, x.want) || e != x.e {
			t.Errorf("Set(%v, %d, %q): %v, %d; want %v, %d", m, x.n, x.v, got, e, x.want, x.e)
		}
		asksSet(t, m, x.n, x.v)
	}
	for _, m := range []api.Iso{{}, message(220), message(-200, one(39, "00")), message(200, one(39, "0")), message(200, one(5, "0")), message(200, one(39, "00"), one(11, "000001")), message(200, one(39, "00"), one(39, "00"))} {
		asksRefused(t, m)
		asksSet(t, m, 5, "x")
		asksSet(t, m, 39, "0")
	}
}

// P9.2: each field into messages of no field, of one, of two, of all; all fields, one behind the other.
func TestSetOfEachField(t *testing.T) {
	for _, m := range messages() {
		for _, n := range numbers {
			asksSet(t, m, n, plain(n).V)
			asksSet(t, m, n, strings.Repeat("7", forms[n].length))
			asksSet(t, m, n, strings.Repeat("7", forms[n].length+1))
			asksSet(t, m, n, "")
		}
	}
	r := rand.New(rand.NewSource(93))
	for range 200 {
		m := message(types[r.Intn(len(types))])
		for _, i := range r.Perm(len(numbers)) {
			f := plain(numbers[i])
			asksSet(t, m, f.N, f.V)
			m, _ = Set(m, f.N, f.V)
		}
		if !same(m, message(m.MTI, all()...)) {
			t.Fatalf("all fields set: %v", m)
		}
	}
}

// P9.2: sets at random, of right values and wrong ones, into messages that are right or not.
func TestSetAtRandom(t *testing.T) {
	r := rand.New(rand.NewSource(94))
	for range 5000 {
		m := someMessage(r)
		if len(m.F) > 0 && r.Intn(4) == 0 {
			m.F[r.Intn(len(m.F))] = m.F[r.Intn(len(m.F))]
		}
		f := some(r, numbers[r.Intn(len(numbers))])
		asksSet(t, m, f.N, f.V)
		asksSet(t, m, f.N, f.V[:r.Intn(len(f.V)+1)])
		asksSet(t, m, r.Intn(140)-5, f.V)
		asksPut(t, m)
	}
}

// Rule 3: the spare room behind what is handed in is as it was.
func TestSpareRoom(t *testing.T) {
	room := []api.Field{one(3, "010000"), one(39, "00"), one(70, "behind"), one(7, "more"), one(8, "most")}
	as := append([]api.Field(nil), room...)
	for length := range 3 {
		m := message(200, room[:length]...)
		for _, n := range numbers {
			if _, e := Set(m, n, plain(n).V); e != api.OK {
				t.Fatalf("Set(%v, %d): %d", m, n, e)
			}
			if _, e := Put(m); e != api.OK {
				t.Fatalf("Put(%v): %d", m, e)
			}
			Get(m, n)
			if !reflect.DeepEqual(room, as) {
				t.Fatalf("behind Set(%d) the room is %v", n, room)
			}
		}
	}
	b, _ := Put(message(420, all()...))
	space := append(bytes.Clone(b), bytes.Repeat([]byte{0xee}, 50)...)
	was := bytes.Clone(space)
	if m, e := Read(space[:len(b)]); !same(m, message(420, all()...)) || e != api.OK || !bytes.Equal(space, was) {
		t.Errorf("Read: %v, %d; the room is %x", m, e, space)
	}
}

// Rule 3: what is answered is new memory, and what was handed in isn't kept.
func TestNewMemory(t *testing.T) {
	m := message(420, all()...)
	b, _ := Put(m)
	again, _ := Put(m)
	for i := range b {
		b[i] = 0xee
	}
	if want, _ := put(m); !bytes.Equal(again, want) {
		t.Errorf("Put's answers share memory: %x", again)
	}
	read, _ := Read(again)
	for i := range again {
		again[i] = 0xee
	}
	if !same(read, message(420, all()...)) {
		t.Errorf("Read keeps its bytes: %v", read)
	}
	for _, n := range []int{2, 39, 95} {
		set, _ := Set(m, n, plain(n).V)
		for i := range set.F {
			set.F[i] = api.Field{}
		}
		if !same(m, message(420, all()...)) {
			t.Fatalf("Set's answer shares memory with %v", m)
		}
		set, _ = Set(m, n, plain(n).V)
		for i := range m.F {
			m.F[i] = api.Field{}
		}
		if !same(set, message(420, all()...)) {
			t.Fatalf("Set keeps what it was handed: %v", set)
		}
		m = set
	}
}

// Rule 3: an answer that is set again keeps to itself, though both grow from the same message.
func TestTwoGrowFromOne(t *testing.T) {
	m := message(200)
	for _, n := range numbers {
		m, _ = Set(m, n, plain(n).V)
		less := message(200, m.F[:len(m.F)-1]...)
		a, _ := Set(less, n, strings.Repeat("8", forms[n].length))
		b, _ := Set(less, n, strings.Repeat("9", forms[n].length))
		one, _ := Get(a, n)
		other, _ := Get(b, n)
		if kept, _ := Get(m, n); one != strings.Repeat("8", forms[n].length) || other != strings.Repeat("9", forms[n].length) || kept != plain(n).V {
			t.Fatalf("field %d: %q, %q, %q", n, one, other, kept)
		}
	}
}
