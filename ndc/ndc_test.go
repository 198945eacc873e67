package ndc

import (
	"bytes"
	"fmt"
	"math"
	"math/big"
	"math/rand"
	"regexp"
	"strconv"
	"strings"
	"testing"

	"guichet/api"
)

// The chapter's numbers, said again.
const (
	sep      = "\x1c"
	mostTerm = 65535
	mostStan = 999999
	mostSum  = 1000000
	mostNote = 10000
	mostCum  = 1<<31 - 1
	longest  = 19
)

// place is where a part of a message lies: the least and the greatest number that the message can hold there, the greatest that is right, and how one is set, be it right or not.
type place struct {
	name            string
	least, greatest int64
	most            int64
	setNumber       func(m *api.Msg, v int64)
}

// account is the name of the one place that has digits, not a number.
const account = "pan"

// cassettes answers the places of a field that has one for each cassette.
func cassettes(name string, most int64, of func(m *api.Msg) *api.Notes) []place {
	var out []place
	for i := range api.Cassettes {
		out = append(out, place{name + strconv.Itoa(i), math.MinInt64, math.MaxInt64, most, func(m *api.Msg, v int64) { of(m)[i] = int(v) }})
	}
	return out
}

// places are those of each field.
var places = map[string][]place{
	"term":   {{"term", 0, math.MaxUint16, mostTerm, func(m *api.Msg, v int64) { m.Term = uint16(v) }}},
	"stan":   {{"stan", 0, math.MaxUint32, mostStan, func(m *api.Msg, v int64) { m.Stan = uint32(v) }}},
	account:  {{name: account}},
	"amount": {{"amount", math.MinInt64, math.MaxInt64, mostSum, func(m *api.Msg, v int64) { m.Amount = v }}},
	"notes":  cassettes("notes", mostNote, func(m *api.Msg) *api.Notes { return &m.Notes }),
	"rej":    cassettes("rej", mostNote, func(m *api.Msg) *api.Notes { return &m.Rej }),
	"cum":    cassettes("cum", mostCum, func(m *api.Msg) *api.Notes { return &m.Cum }),
	"cumrej": cassettes("cumrej", mostCum, func(m *api.Msg) *api.Notes { return &m.CumRej }),
	"loads":  {{"loads", math.MinInt64, math.MaxInt64, mostSum, func(m *api.Msg, v int64) { m.Loads = int(v) }}},
	"loaded": cassettes("loaded", mostNote, func(m *api.Msg) *api.Notes { return &m.Loaded }),
}

// kinds are the kinds that there are: the first part of each, and its fields in order.
var kinds = []struct {
	kind   int
	code   string
	fields string
}{
	{api.MsgRequest, "11", "term stan pan amount"},
	{api.MsgStatus, "22", "term stan notes rej"},
	{api.MsgPowerUp, "12", "term"},
	{api.MsgCounters, "23", "term stan notes rej cum cumrej loads loaded"},
	{api.MsgDispense, "30", "term stan amount notes"},
	{api.MsgDecline, "31", "term stan"},
	{api.MsgQuery, "32", "term stan"},
}

// placesOf answers the places of some fields, in order.
func placesOf(fields string) []place {
	var out []place
	for _, name := range strings.Fields(fields) {
		out = append(out, places[name]...)
	}
	return out
}

// otherPlaces answers the places that those fields don't have.
func otherPlaces(fields string) []place {
	var out []place
	for name, l := range places {
		if !strings.Contains(" "+fields+" ", " "+name+" ") {
			out = append(out, l...)
		}
	}
	return out
}

var (
	isNumber  = regexp.MustCompile(`\A(0|[1-9][0-9]*)\z`)
	isAccount = regexp.MustCompile(`\A[0-9]{1,19}\z`)
)

// right answers whether a text is a part for the place.
func (p place) right(text string) bool {
	if p.name == account {
		return isAccount.MatchString(text)
	}
	if !isNumber.MatchString(text) {
		return false
	}
	v, _ := new(big.Int).SetString(text, 10)
	return v.Cmp(big.NewInt(p.most)) <= 0
}

// set sets what a right text says.
func (p place) set(m *api.Msg, text string) {
	if p.name == account {
		m.Pan = text
		return
	}
	v, err := strconv.ParseInt(text, 10, 64)
	if err != nil {
		panic(err)
	}
	p.setNumber(m, v)
}

// model answers what Read must.
func model(s string) (api.Msg, bool) {
	texts := strings.Split(s, sep)
	for _, k := range kinds {
		if texts[0] != k.code {
			continue
		}
		l := placesOf(k.fields)
		if len(texts) != 1+len(l) {
			return api.Msg{}, false
		}
		m := api.Msg{Kind: k.kind}
		for i, p := range l {
			if !p.right(texts[1+i]) {
				return api.Msg{}, false
			}
			p.set(&m, texts[1+i])
		}
		return m, true
	}
	return api.Msg{}, false
}

// rightTexts answers texts that are right at the place, the least and the greatest at the two ends.
func (p place) rightTexts() []string {
	if p.name == account {
		return []string{"0", "00", "5", "0051", "051", "12", "999999999999999999", "0000000000000000000", "1234567890123456789", strings.Repeat("9", longest)}
	}
	out := []string{"0", "1", "2", "9", "10", "11", "99", "100", "255", "256", "257", "1000"}
	for _, v := range []int64{p.most / 2, p.most - 1, p.most} {
		out = append(out, strconv.FormatInt(v, 10))
	}
	return out
}

// wrongTexts answers texts that aren't right at the place.
func (p place) wrongTexts() []string {
	out := []string{"", " ", "-", "+", "a", ".", "\x00", "\xff", "-1", "+1", "-0", "+0", " 1", "1 ", "1\n", "\n1", "1a", "a1", "1.0", "1,0", "1e1", "0x1", "1_0", "/", ":", "1/", ":1", "\u0661", "\uff11", "\xb1", "12345678901234567890", "99999999999999999999", strings.Repeat("0", 20), strings.Repeat("1", 1000)}
	if p.name == account {
		return append(out, strings.Repeat("9", longest+1), strings.Repeat("1", 256+1))
	}
	out = append(out, "00", "01", "000", "007", "0123456", "00000000000000000", "000000000000000001", "0000000000000000001", "999999999999999999", "1000000000000000000", "9223372036854775807", "9223372036854775808", "18446744073709551615", "18446744073709551616", "18446744073709551617")
	for _, v := range []int64{p.most + 1, p.most + 2, p.most * 10, p.most + 1<<16, p.most + 1<<32, 1 << 32, 1<<32 + 1, 1 << 40, math.MaxInt64 - 1} {
		out = append(out, strconv.FormatInt(v, 10))
	}
	return out
}

// wrongNumbers answers numbers that the message can hold there, and that aren't right.
func (p place) wrongNumbers() []int64 {
	var out []int64
	for _, v := range []int64{math.MinInt64, math.MinInt64 + 1, -1 << 40, -1 << 32, 1 - 1<<32, -1 << 31, -p.most, -2, -1, p.most + 1, p.most + 2, 1 << 31, 1<<32 - 1, 1 << 32, 1<<32 + 1, 1 << 40, 1<<63 - 1000, math.MaxInt64} {
		if v >= p.least && v <= p.greatest && (v < 0 || v > p.most) {
			out = append(out, v)
		}
	}
	return out
}

// example answers the texts of a right message, with another number in each place.
func example(l []place) []string {
	var out []string
	for i, p := range l {
		if p.name == account {
			out = append(out, "0051")
		} else {
			out = append(out, strconv.Itoa(i+3))
		}
	}
	return out
}

// joined answers the bytes of a message of such parts, be it right or not.
func joined(code string, texts []string) string {
	return strings.Join(append([]string{code}, texts...), sep)
}

// with answers the texts, but for the one at the place i.
func with(texts []string, i int, text string) []string {
	out := append([]string(nil), texts...)
	out[i] = text
	return out
}

// asks fails the test where m isn't right, has other bytes than want, or want another message than m.
func asks(t *testing.T, m api.Msg, want string) {
	t.Helper()
	if !Right(m) {
		t.Fatalf("Right(%+v): false", m)
	}
	if b, e := Put(m); e != api.OK || string(b) != want {
		t.Fatalf("Put(%+v): %q, %v, not %q", m, b, e, want)
	}
	if got, e := Read([]byte(want)); e != api.OK || got != m {
		t.Fatalf("Read(%q): %+v, %v, not %+v", want, got, e, m)
	}
}

// refuses fails the test where m is right, or has bytes.
func refuses(t *testing.T, m api.Msg) {
	t.Helper()
	if Right(m) {
		t.Fatalf("Right(%+v): true", m)
	}
	if b, e := Put(m); e != api.ErrField || len(b) != 0 {
		t.Fatalf("Put(%+v): %q, %v", m, b, e)
	}
}

// refusesBytes fails the test where s has a message.
func refusesBytes(t *testing.T, s string) {
	t.Helper()
	if m, e := Read([]byte(s)); e != api.ErrBytes || m != (api.Msg{}) {
		t.Fatalf("Read(%q): %+v, %v", s, m, e)
	}
}

// asksModel fails the test where Read doesn't answer what it must, and answers whether s is a message.
func asksModel(t *testing.T, s string) bool {
	t.Helper()
	m, ok := model(s)
	if ok {
		asks(t, m, s)
	} else {
		refusesBytes(t, s)
	}
	return ok
}

// P12.1, P12.2: messages written out, the chapter's example ahead.
func TestMessagesWrittenOut(t *testing.T) {
	for _, x := range []struct {
		m    api.Msg
		want string
	}{
		{api.Msg{Kind: api.MsgPowerUp, Term: 3}, "12\x1c3"},
		{api.Msg{Kind: api.MsgPowerUp}, "12\x1c0"},
		{api.Msg{Kind: api.MsgPowerUp, Term: 65535}, "12\x1c65535"},
		{api.Msg{Kind: api.MsgRequest, Term: 1, Stan: 20, Pan: "0051", Amount: 300}, "11\x1c1\x1c20\x1c0051\x1c300"},
		{api.Msg{Kind: api.MsgRequest, Pan: "0"}, "11\x1c0\x1c0\x1c0\x1c0"},
		{api.Msg{Kind: api.MsgStatus, Term: 1, Stan: 2, Notes: api.Notes{3, 4, 5, 6}, Rej: api.Notes{7, 8, 9, 10}}, "22\x1c1\x1c2\x1c3\x1c4\x1c5\x1c6\x1c7\x1c8\x1c9\x1c10"},
		{api.Msg{Kind: api.MsgDispense, Term: 1, Stan: 2, Amount: 3, Notes: api.Notes{4, 5, 6, 7}}, "30\x1c1\x1c2\x1c3\x1c4\x1c5\x1c6\x1c7"},
		{api.Msg{Kind: api.MsgDecline, Term: 1, Stan: 2}, "31\x1c1\x1c2"},
		{api.Msg{Kind: api.MsgQuery, Term: 1, Stan: 2}, "32\x1c1\x1c2"},
		{
			api.Msg{Kind: api.MsgCounters, Term: 1, Stan: 2, Notes: api.Notes{3, 4, 5, 6}, Rej: api.Notes{7, 8, 9, 10}, Cum: api.Notes{11, 12, 13, 14}, CumRej: api.Notes{15, 16, 17, 18}, Loads: 19, Loaded: api.Notes{20, 21, 22, 23}},
			"23\x1c1\x1c2\x1c3\x1c4\x1c5\x1c6\x1c7\x1c8\x1c9\x1c10\x1c11\x1c12\x1c13\x1c14\x1c15\x1c16\x1c17\x1c18\x1c19\x1c20\x1c21\x1c22\x1c23",
		},
	} {
		asks(t, x.m, x.want)
		if m, ok := model(x.want); !ok || m != x.m {
			t.Errorf("the model: %q: %+v, %v", x.want, m, ok)
		}
	}
}

// P12.1, P12.2: each kind with all its parts at their least, and all at their greatest.
func TestLeastAndGreatest(t *testing.T) {
	for _, k := range kinds {
		var least, greatest []string
		for _, p := range placesOf(k.fields) {
			l := p.rightTexts()
			least, greatest = append(least, l[0]), append(greatest, l[len(l)-1])
		}
		if !asksModel(t, joined(k.code, least)) || !asksModel(t, joined(k.code, greatest)) {
			t.Errorf("kind %d: the model", k.kind)
		}
		if b, _ := Put(api.Msg{Kind: k.kind}); (len(b) == 0) != (k.kind == api.MsgRequest) {
			t.Errorf("kind %d alone: %q", k.kind, b)
		}
	}
}

// P12.1, P12.2: each part of each kind, at its edges and between.
func TestEachPart(t *testing.T) {
	for _, k := range kinds {
		l := placesOf(k.fields)
		texts := example(l)
		for i, p := range l {
			for _, text := range p.rightTexts() {
				if s := joined(k.code, with(texts, i, text)); !asksModel(t, s) {
					t.Errorf("the model: %q", s)
				}
			}
		}
	}
}

// P12.1, P12.2: one number too small or too great is enough, in each part of each kind.
func TestNumbersThatAreNotRight(t *testing.T) {
	for _, k := range kinds {
		l := placesOf(k.fields)
		m, ok := model(joined(k.code, example(l)))
		if !ok || !Right(m) {
			t.Fatalf("kind %d: the example", k.kind)
		}
		for _, p := range l {
			if p.name == account {
				continue
			}
			for _, v := range p.wrongNumbers() {
				wrong := m
				p.setNumber(&wrong, v)
				refuses(t, wrong)
			}
		}
	}
}

// P12.1: the number of a transaction, over all that its field holds.
func TestStan(t *testing.T) {
	for _, kind := range []int{api.MsgRequest, api.MsgStatus, api.MsgCounters, api.MsgDispense, api.MsgDecline, api.MsgQuery} {
		m := api.Msg{Kind: kind}
		if kind == api.MsgRequest {
			m.Pan = "5"
		}
		for stan, want := range map[uint32]bool{0: true, 1: true, 65536: true, 999998: true, 999999: true, 1000000: false, 1000001: false, 9999999: false, 1 << 31: false, math.MaxUint32: false} {
			if m.Stan = stan; Right(m) != want {
				t.Errorf("kind %d, stan %d: %v", kind, stan, !want)
			}
		}
	}
}

// P12.1: all terminals are right.
func TestTerm(t *testing.T) {
	for term := range 1 << 16 {
		asks(t, api.Msg{Kind: api.MsgPowerUp, Term: uint16(term)}, "12\x1c"+strconv.Itoa(term))
	}
	for _, s := range []string{"65536", "65537", "131072", "99999", "100000", "-1"} {
		refusesBytes(t, "12\x1c"+s)
	}
}

// asksPan fails the test where a request of the account isn't right though it should be, or is though it shouldn't.
func asksPan(t *testing.T, pan string, want bool) {
	t.Helper()
	m := api.Msg{Kind: api.MsgRequest, Term: 1, Stan: 2, Pan: pan, Amount: 3}
	if s := "11\x1c1\x1c2\x1c" + pan + "\x1c3"; want {
		asks(t, m, s)
	} else {
		refuses(t, m)
		refusesBytes(t, s)
	}
}

// P12.1, P12.2: accounts of each length.
func TestPanOfEachLength(t *testing.T) {
	for n := range 300 {
		for _, digit := range []string{"0", "5", "9"} {
			asksPan(t, strings.Repeat(digit, n), n >= 1 && n <= longest)
		}
	}
	for _, n := range []int{1 << 16, 1<<16 + 1, 1<<16 + longest} {
		asksPan(t, strings.Repeat("7", n), false)
	}
}

// P12.1, P12.2: one sign that is no digit is enough, wherever it is; noughts ahead are digits as others.
func TestPanOfEachSign(t *testing.T) {
	for n := 1; n <= longest+1; n++ {
		for at := range n {
			for c := range 256 {
				b := []byte(strings.Repeat("4", n))
				b[at] = byte(c)
				asksPan(t, string(b), n <= longest && c >= '0' && c <= '9')
			}
		}
	}
	asksPan(t, "\u0661", false)
	asksPan(t, "1\uff112", false)
	asksPan(t, sep, false)
	asksPan(t, "1"+sep+"2", false)
}

// P12.1, P12.2: of no kind but the seven, whatever its last bits say.
func TestKindsThatAreNone(t *testing.T) {
	full := api.Msg{Term: 1, Stan: 2, Pan: "51", Amount: 3, Notes: api.Notes{1}, Rej: api.Notes{1}, Cum: api.Notes{1}, CumRej: api.Notes{1}, Loads: 1, Loaded: api.Notes{1}}
	for _, kind := range []int{math.MinInt, math.MinInt + 1, -1 << 32, 1 - 1<<32, -256, -255, -7, -1, 0, api.MsgKinds, api.MsgKinds + 1, 11, 12, 22, 23, 30, 31, 32, 255, 256, 257, 263, 65537, 1 << 32, 1<<32 + 1, 1<<32 + 7, math.MaxInt} {
		refuses(t, api.Msg{Kind: kind})
		refuses(t, api.Msg{Kind: kind, Term: 1})
		refuses(t, api.Msg{Kind: kind, Term: 1, Stan: 2})
		refuses(t, api.Msg{Kind: kind, Term: 1, Stan: 2, Pan: "51", Amount: 3})
		full.Kind = kind
		refuses(t, full)
	}
	for _, k := range kinds {
		full.Kind = k.kind
		refuses(t, full)
	}
}

// P12.1, P12.2: all that isn't a part of a kind is zero.
func TestWhatIsNoPart(t *testing.T) {
	for _, k := range kinds {
		whole, _ := model(joined(k.code, example(placesOf(k.fields))))
		for _, m := range []api.Msg{whole, {Kind: k.kind}} {
			for _, p := range otherPlaces(k.fields) {
				if p.name == account {
					for _, pan := range []string{"0", "5", "0051", "x", " ", "\x00", strings.Repeat("9", longest), strings.Repeat("9", longest+1)} {
						other := m
						other.Pan = pan
						refuses(t, other)
					}
					continue
				}
				for _, v := range append(p.wrongNumbers(), 1, 2, 255, 256, p.most-1, p.most) {
					other := m
					p.setNumber(&other, v)
					refuses(t, other)
				}
			}
		}
	}
}

// P12.2: one part that isn't right is enough, in each place of each kind.
func TestReadOfPartsThatAreNotRight(t *testing.T) {
	for _, k := range kinds {
		l := placesOf(k.fields)
		texts := example(l)
		for i, p := range l {
			for _, text := range p.wrongTexts() {
				s := joined(k.code, with(texts, i, text))
				if p.right(text) {
					t.Fatalf("the model: %q", s)
				}
				refusesBytes(t, s)
			}
		}
	}
}

// P12.2: a number has one sign only where it is 0.
func TestReadOfNoughts(t *testing.T) {
	for _, k := range kinds {
		l := placesOf(k.fields)
		texts := example(l)
		for i, p := range l {
			if p.name == account {
				continue
			}
			asksModel(t, joined(k.code, with(texts, i, "0")))
			for n := 1; n < 25; n++ {
				refusesBytes(t, joined(k.code, with(texts, i, "0"+strings.Repeat("0", n))))
				refusesBytes(t, joined(k.code, with(texts, i, strings.Repeat("0", n)+"1")))
				refusesBytes(t, joined(k.code, with(texts, i, strings.Repeat("0", n)+strconv.FormatInt(p.most, 10))))
			}
		}
	}
}

// P12.2: what has no kind's first part, or nothing behind it, is no message.
func TestReadOfNothing(t *testing.T) {
	if m, e := Read(nil); e != api.ErrBytes || m != (api.Msg{}) {
		t.Errorf("Read(nil): %+v, %v", m, e)
	}
	for _, s := range []string{"", "\x00", "1", "2", "3", " ", "x", sep, sep + sep, strings.Repeat(sep, 25), "11", "12", "22", "23", "30", "31", "32", "11\x1c", "12\x1c", "23\x1c", "12\x1c\x1c", sep + "12\x1c3", "\x1c3", "12,3", "123", "12\x1d3", "12\x1b3", "12\x9c3", "12 3"} {
		refusesBytes(t, s)
	}
}

// P12.2: no other first part than the seven goes, however many parts stand behind it.
func TestReadOfEachFirstPart(t *testing.T) {
	codes := map[string]bool{}
	for _, k := range kinds {
		codes[k.code] = true
	}
	firsts := []string{"", " ", "011", "012", "+12", "-12", "12 ", " 12", "112", "122", "1 2", "0x12", "12.0", "\u0661\u0662", "4294967308", "18446744073709551628", "1000000000000000000000012"}
	for v := range 1000 {
		firsts = append(firsts, strconv.Itoa(v), fmt.Sprintf("%02d", v), fmt.Sprintf("%04d", v))
	}
	for c := range 1 << 16 {
		firsts = append(firsts, string([]byte{byte(c >> 8), byte(c)}))
	}
	for _, k := range kinds {
		rest := sep + strings.Join(example(placesOf(k.fields)), sep)
		for _, first := range firsts {
			if codes[first] {
				asksModel(t, first+rest)
			} else {
				refusesBytes(t, first+rest)
			}
		}
	}
}

// P12.2: of each number of parts, only that of the kind goes.
func TestReadOfOtherNumbersOfParts(t *testing.T) {
	for _, k := range kinds {
		l := placesOf(k.fields)
		for n := range 40 {
			texts := make([]string, n)
			for i := range texts {
				texts[i] = strconv.Itoa(i + 1)
			}
			if ok := asksModel(t, joined(k.code, texts)); ok != (n == len(l)) {
				t.Errorf("kind %d of %d parts: %v", k.kind, n, ok)
			}
		}
		s := joined(k.code, example(l))
		for _, more := range []string{sep, sep + sep, sep + "0", sep + "1", sep + "x", sep + s} {
			refusesBytes(t, s+more)
		}
		refusesBytes(t, sep+s)
		refusesBytes(t, "1"+sep+s)
	}
}

// P12.2: an empty part in each place, instead of another and beside it; each part twice; each two parts as one.
func TestReadOfEmptyParts(t *testing.T) {
	for _, k := range kinds {
		texts := append([]string{k.code}, example(placesOf(k.fields))...)
		for i := range texts {
			refusesBytes(t, strings.Join(with(texts, i, ""), sep))
			for _, more := range []string{"", "0", texts[i]} {
				l := append(append(append([]string(nil), texts[:i]...), more), texts[i:]...)
				refusesBytes(t, strings.Join(l, sep))
			}
			gone := append(append([]string(nil), texts[:i]...), texts[i+1:]...)
			refusesBytes(t, strings.Join(gone, sep))
			if i > 0 {
				refusesBytes(t, strings.Join(texts[:i], sep)+strings.Join(texts[i:], sep))
			}
		}
	}
}

// samples answers the bytes of messages of each kind: short and long ones.
func samples() []string {
	var out []string
	for _, k := range kinds {
		l := placesOf(k.fields)
		var most, noughts []string
		for _, p := range l {
			right := p.rightTexts()
			most, noughts = append(most, right[len(right)-1]), append(noughts, "0")
		}
		out = append(out, joined(k.code, example(l)), joined(k.code, most), joined(k.code, noughts))
	}
	return out
}

// P12.2, P12.3: each byte of a message changed to each other one, taken out, or put in, at each place.
func TestReadOfWhatIsChanged(t *testing.T) {
	for _, s := range samples() {
		for at := range len(s) + 1 {
			for c := range 256 {
				sign := string([]byte{byte(c)})
				asksModel(t, s[:at]+sign+s[at:])
				if at < len(s) {
					asksModel(t, s[:at]+sign+s[at+1:])
				}
			}
			if at < len(s) {
				asksModel(t, s[:at]+s[at+1:])
			}
		}
	}
}

// P12.2: what is cut off is another message or none.
func TestReadOfWhatIsCut(t *testing.T) {
	for _, s := range samples() {
		for at := range len(s) {
			asksModel(t, s[:at])
			if at > 0 {
				refusesBytes(t, s[at:])
			}
		}
	}
}

// randomText answers a text for the place: right as a rule, where wrong is false.
func randomText(r *rand.Rand, p place, wrong bool) string {
	l := p.rightTexts()
	if wrong {
		l = p.wrongTexts()
	} else if p.name != account && r.Intn(2) == 0 {
		return strconv.FormatInt(r.Int63n(p.most+1), 10)
	}
	return l[r.Intn(len(l))]
}

// P12.2, P12.3: messages at random, some of them with a part that isn't right.
func TestMessagesAtRandom(t *testing.T) {
	r := rand.New(rand.NewSource(12))
	good := 0
	for range 30000 {
		k := kinds[r.Intn(len(kinds))]
		var texts []string
		for _, p := range placesOf(k.fields) {
			texts = append(texts, randomText(r, p, r.Intn(30) == 0))
		}
		if asksModel(t, joined(k.code, texts)) {
			good++
		}
	}
	if good < 10000 || good > 29000 {
		t.Errorf("%d of 30000 were right", good)
	}
}

// P12.2: bytes at random, of those that messages have, and of all.
func TestBytesAtRandom(t *testing.T) {
	r := rand.New(rand.NewSource(13))
	good := 0
	for range 100000 {
		b := make([]byte, r.Intn(12))
		for i := range b {
			b[i] = "0123123\x1c\x1c\x1c\x1c- "[r.Intn(13)]
		}
		s := string(b)
		if r.Intn(2) == 0 {
			s = kinds[r.Intn(len(kinds))].code + sep + s
		}
		if asksModel(t, s) {
			good++
		}
		r.Read(b)
		asksModel(t, string(b))
	}
	if good < 100 {
		t.Errorf("%d were right", good)
	}
}

// randomMsg answers a message of any kind, with a few fields set to anything.
func randomMsg(r *rand.Rand) (api.Msg, bool) {
	k := kinds[r.Intn(len(kinds))]
	m, right := api.Msg{Kind: k.kind}, true
	for _, p := range placesOf(k.fields) {
		p.set(&m, randomText(r, p, false))
	}
	for range r.Intn(2) {
		l := placesOf(k.fields)
		part := r.Intn(2) == 0
		if !part {
			l = otherPlaces(k.fields)
		}
		p := l[r.Intn(len(l))]
		if wrong := p.wrongNumbers(); p.name == account {
			m.Pan, right = "1x", false
		} else if len(wrong) > 0 {
			p.setNumber(&m, wrong[r.Intn(len(wrong))])
			right = false
		} else if !part {
			p.setNumber(&m, 1)
			right = false
		}
	}
	return m, right
}

// P12.1, P12.2: Right and Put agree, and what Put makes is read as the same message.
func TestRightAndPutAgree(t *testing.T) {
	r := rand.New(rand.NewSource(14))
	for range 30000 {
		m, right := randomMsg(r)
		if !right {
			refuses(t, m)
			continue
		}
		b, e := Put(m)
		if got, ok := model(string(b)); e != api.OK || !ok || got != m {
			t.Fatalf("Put(%+v): %q, %v", m, b, e)
		}
		asks(t, m, string(b))
	}
}

// P12.3: two messages that differ never have the same bytes, and two bytes that differ never the same message.
func TestMessagesHaveOneForm(t *testing.T) {
	r := rand.New(rand.NewSource(15))
	byBytes, byMsg := map[string]api.Msg{}, map[api.Msg]string{}
	keep := func(m api.Msg) {
		b, e := Put(m)
		if e != api.OK {
			return
		}
		if other, ok := byBytes[string(b)]; ok && other != m {
			t.Fatalf("%q: %+v, %+v", b, m, other)
		}
		byBytes[string(b)], byMsg[m] = m, string(b)
	}
	for range 20000 {
		m, _ := randomMsg(r)
		keep(m)
		for _, k := range kinds {
			m.Kind = k.kind
			keep(m)
		}
	}
	for _, k := range kinds {
		for range 2000 {
			m := api.Msg{Kind: k.kind}
			for _, p := range placesOf(k.fields) {
				p.set(&m, []string{"0", "1", "11", "111"}[r.Intn(4)])
			}
			keep(m)
		}
	}
	if len(byMsg) != len(byBytes) || len(byMsg) < 10000 {
		t.Errorf("%d messages, %d bytes", len(byMsg), len(byBytes))
	}
	for s, m := range byBytes {
		asks(t, m, s)
	}
}

// spare is how much room stands behind what is handed in.
const spare = 64

// P12.2: DOC.md's rule 3: what is handed in stays, its spare room too, and the message stays when it is changed.
func TestBytesHandedInStay(t *testing.T) {
	wrong := []string{"", "x", sep, "12\x1c03", "12\x1c", "11\x1c1\x1c2\x1c5x\x1c3", "31\x1c1", "99\x1c1"}
	for _, s := range append(samples(), wrong...) {
		all := append([]byte(s), bytes.Repeat([]byte("-"), spare)...)
		before := string(all)
		m, e := Read(all[:len(s):len(all)])
		if string(all) != before {
			t.Fatalf("%q was changed to %q", before, all)
		}
		for i := range all {
			all[i] = '7'
		}
		if want, ok := model(s); m != want || ok != (e == api.OK) {
			t.Fatalf("Read(%q): %+v, %v, not %+v", s, m, e, want)
		}
	}
}

// P12.2: DOC.md's rule 3: what is answered is new memory.
func TestBytesAnsweredAreNew(t *testing.T) {
	for _, s := range samples() {
		m, _ := model(s)
		first, _ := Put(m)
		second, _ := Put(m)
		second = second[:cap(second)]
		for i := range second {
			second[i] = '*'
		}
		if string(first) != s {
			t.Fatalf("%q, then %q", s, first)
		}
		first = first[:cap(first)]
		for i := range first {
			first[i] = '+'
		}
		if want, _ := model(s); m != want {
			t.Fatalf("%+v was changed to %+v", want, m)
		}
		asks(t, m, s)
	}
}

// P12.2: what is answered hangs on what is handed in, on nothing that came before.
func TestAnswersDoNotHangOnOthers(t *testing.T) {
	for range 3 {
		for _, s := range samples() {
			asksModel(t, s)
			refusesBytes(t, s+sep)
			refuses(t, api.Msg{Kind: api.MsgPowerUp, Stan: 1})
			asks(t, api.Msg{Kind: api.MsgPowerUp, Term: 3}, "12\x1c3")
		}
	}
}
