package pos

import (
	"bytes"
	"fmt"
	"math"
	"math/rand"
	"regexp"
	"strconv"
	"strings"
	"testing"

	"guichet/api"
)

// The chapter's numbers, said again.
const (
	mostTerm = 65535
	mostSeq  = 999999
	mostSum  = 1000000
	longest  = 19
	// around is how many bytes a frame has beside those between its marks.
	around = 3
)

var (
	// isFrame is a frame but for its sum: an STX, what is neither mark, an ETX.
	isFrame   = regexp.MustCompile("\x02[^\x02\x03]*\x03")
	isRequest = regexp.MustCompile(`\AP([0-9]{5})([0-9]{6})([0-9]{12})([0-9]{1,19})\z`)
)

// sum answers what stands behind the ETX of a frame.
func sum(between string) byte {
	x := byte(3)
	for i := range len(between) {
		x ^= between[i]
	}
	return x
}

// framed answers the frame that has those bytes between its marks, be there a request in it or not.
func framed(between string) string {
	return "\x02" + between + "\x03" + string([]byte{sum(between)})
}

// modelFrame answers what the first good frame has between its marks, and how many bytes are taken.
func modelFrame(s string) (string, int, bool) {
	for _, at := range isFrame.FindAllStringIndex(s, -1) {
		between := s[at[0]+1 : at[1]-1]
		if at[1] < len(s) && s[at[1]] == sum(between) && len(between) <= 500 {
			return between, at[1] + 1, true
		}
	}
	return "", 0, false
}

// modelRequest answers the request that stands between a frame's marks.
func modelRequest(between string) (api.Pos, bool) {
	parts := isRequest.FindStringSubmatch(between)
	if parts == nil {
		return api.Pos{}, false
	}
	var l []int64
	for _, part := range parts[1:4] {
		v, err := strconv.ParseInt(part, 10, 64)
		if err != nil {
			panic(err)
		}
		l = append(l, v)
	}
	if l[0] > mostTerm || l[2] < 1 || l[2] > mostSum {
		return api.Pos{}, false
	}
	return api.Pos{Term: uint16(l[0]), Seq: uint32(l[1]), Pan: parts[4], Amount: l[2]}, true
}

// text answers what stands between the marks of a right request's frame.
func text(p api.Pos) string {
	return fmt.Sprintf("P%05d%06d%012d%s", p.Term, p.Seq, p.Amount, p.Pan)
}

// asksModel fails the test where Read doesn't answer what it must, and answers whether s has a request.
func asksModel(t *testing.T, s string) bool {
	t.Helper()
	between, taken, framed := modelFrame(s)
	want, ok := modelRequest(between)
	wantErr := api.OK
	if !framed || !ok {
		want, wantErr = api.Pos{}, api.ErrBytes
	}
	if p, n, e := Read([]byte(s)); p != want || n != taken || e != wantErr {
		t.Fatalf("Read(%q): %+v, %d, %v, not %+v, %d, %v", s, p, n, e, want, taken, wantErr)
	}
	return wantErr == api.OK
}

// asks fails the test where p isn't right, has another frame than that of want, or isn't read from it.
func asks(t *testing.T, p api.Pos, want string) {
	t.Helper()
	if !Right(p) {
		t.Fatalf("Right(%+v): false", p)
	}
	if b, e := Put(p); e != api.OK || string(b) != framed(want) {
		t.Fatalf("Put(%+v): %q, %v, not %q", p, b, e, framed(want))
	}
	readsAs(t, framed(want), p, len(want)+around)
}

// readsAs fails the test where Read doesn't answer that request.
func readsAs(t *testing.T, s string, want api.Pos, taken int) {
	t.Helper()
	if p, n, e := Read([]byte(s)); p != want || n != taken || e != api.OK {
		t.Fatalf("Read(%q): %+v, %d, %v, not %+v, %d", s, p, n, e, want, taken)
	}
}

// refuses fails the test where p is right, or has bytes.
func refuses(t *testing.T, p api.Pos) {
	t.Helper()
	if Right(p) {
		t.Fatalf("Right(%+v): true", p)
	}
	if b, e := Put(p); e != api.ErrField || len(b) != 0 {
		t.Fatalf("Put(%+v): %q, %v", p, b, e)
	}
}

// refusesBytes fails the test where s has a request, or not so many bytes of it are taken.
func refusesBytes(t *testing.T, s string, taken int) {
	t.Helper()
	if p, n, e := Read([]byte(s)); p != (api.Pos{}) || n != taken || e != api.ErrBytes {
		t.Fatalf("Read(%q): %+v, %d, %v, not ErrBytes with %d", s, p, n, e, taken)
	}
}

// refusesFrame fails the test where there is a request in the frame of those bytes, or its bytes aren't taken.
func refusesFrame(t *testing.T, between string) {
	t.Helper()
	s := framed(between)
	refusesBytes(t, s, len(s))
	refusesBytes(t, s+"more", len(s))
	refusesBytes(t, "ahead"+s, len("ahead")+len(s))
}

// example is a right request, with other digits in each part.
func example() api.Pos {
	return api.Pos{Term: 123, Seq: 4567, Pan: "0089", Amount: 65432}
}

// samples answers right requests: short and long ones.
func samples() []api.Pos {
	return []api.Pos{
		example(),
		{Pan: "0", Amount: 1},
		{Term: mostTerm, Seq: mostSeq, Pan: strings.Repeat("9", longest), Amount: mostSum},
		{Term: 3, Seq: 4, Pan: "51", Amount: 600},
		{Term: 1, Seq: 2, Pan: strings.Repeat("0", longest), Amount: 3},
	}
}

// P13.1: requests written out.
func TestRequestsWrittenOut(t *testing.T) {
	for _, x := range []struct {
		p    api.Pos
		want string
	}{
		{api.Pos{Term: 3, Seq: 4, Pan: "51", Amount: 600}, "P00003" + "000004" + "000000000600" + "51"},
		{api.Pos{Pan: "0", Amount: 1}, "P00000" + "000000" + "000000000001" + "0"},
		{api.Pos{Term: 65535, Seq: 999999, Pan: "1234567890123456789", Amount: 1000000}, "P65535" + "999999" + "000001000000" + "1234567890123456789"},
		{api.Pos{Term: 12345, Seq: 678901, Pan: "0051", Amount: 234567}, "P12345" + "678901" + "000000234567" + "0051"},
	} {
		asks(t, x.p, x.want)
	}
	if b, e := Put(api.Pos{Term: 3, Seq: 4, Pan: "51", Amount: 600}); e != api.OK || string(b) != "\x02P0000300000400000000060051\x03f" {
		t.Errorf("%q, %v", b, e)
	}
	refuses(t, api.Pos{})
}

// P13.1: the chapter's example: what Put makes is read as the same request, and all of it is taken.
func TestReadOfWhatPutMakes(t *testing.T) {
	for _, p := range samples() {
		b, e := Put(p)
		if e != api.OK {
			t.Fatalf("Put(%+v): %v", p, e)
		}
		readsAs(t, string(b), p, len(b))
	}
}

// P13.1: each edge of each part, and all of them with one another; Right and Put agree.
func TestEdgesWithOneAnother(t *testing.T) {
	terms := []uint16{0, 1, 255, 256, 32767, 32768, 65534, 65535}
	seqs := map[uint32]bool{0: true, 1: true, 65535: true, 65536: true, 999998: true, 999999: true, 1000000: false, 1000001: false, 9999999: false, 1 << 31: false, math.MaxUint32 - 1: false, math.MaxUint32: false}
	pans := map[string]bool{"": false, "0": true, "7": true, "00": true, "9999999999999999999": true, "0000000000000000000": true, "1234567890123456789": true, "12345678901234567890": false, "00000000000000000000": false, "1x": false, "-1": false, "+1": false, " 1": false, "1 ": false}
	amounts := map[int64]bool{math.MinInt64: false, math.MinInt64 + 1: false, -1 << 32: false, 1 - 1<<32: false, -mostSum: false, -1: false, 0: false, 1: true, 2: true, 65536: true, 999999: true, mostSum: true, mostSum + 1: false, 1 << 32: false, 1<<32 + 1: false, 999999999999: false, 1000000000000: false, 1000000000001: false, math.MaxInt64: false}
	for _, term := range terms {
		for seq, seqRight := range seqs {
			for pan, panRight := range pans {
				for amount, amountRight := range amounts {
					p := api.Pos{Term: term, Seq: seq, Pan: pan, Amount: amount}
					if seqRight && panRight && amountRight {
						asks(t, p, text(p))
					} else {
						refuses(t, p)
					}
				}
			}
		}
	}
}

// P13.1: all terminals' numbers are right, and none that five digits may say besides.
func TestTermsOfFiveDigits(t *testing.T) {
	for v := range 100000 {
		s := fmt.Sprintf("P%05d%06d%012d%s", v, 1, 2, "3")
		if v <= mostTerm {
			asks(t, api.Pos{Term: uint16(v), Seq: 1, Amount: 2, Pan: "3"}, s)
		} else {
			refusesBytes(t, framed(s), len(s)+around)
		}
	}
}

// P13.1: numbers of requests up to the greatest, and behind it.
func TestSeqs(t *testing.T) {
	p := example()
	for v := uint32(0); v <= mostSeq; v += 7 {
		p.Seq = v
		asks(t, p, text(p))
	}
	for v := uint32(mostSeq + 1); v < 3*mostSeq; v += 7 {
		p.Seq = v
		refuses(t, p)
	}
}

// P13.1: amounts, also those of twelve digits that are too great.
func TestAmounts(t *testing.T) {
	p := example()
	for v := int64(1); v <= mostSum; v += 11 {
		p.Amount = v
		asks(t, p, text(p))
	}
	for _, v := range []int64{0, mostSum + 1, mostSum + 2, 2 * mostSum, 9999999, 10000000, 1 << 31, 1 << 32, 1<<32 + 1, 1<<32 + mostSum, 1 << 36, 100000000001, 999999999999} {
		refusesFrame(t, fmt.Sprintf("P%05d%06d%012d%s", 1, 2, v, "3"))
		p.Amount = v
		refuses(t, p)
		p.Amount = -v
		refuses(t, p)
	}
}

// asksPan fails the test where a request of the account isn't right though it should be, or is though it shouldn't.
func asksPan(t *testing.T, pan string, want bool) {
	t.Helper()
	p := example()
	p.Pan = pan
	if want {
		asks(t, p, text(p))
		return
	}
	refuses(t, p)
	asksModel(t, framed(text(p)))
}

// P13.1: accounts of each length.
func TestPanOfEachLength(t *testing.T) {
	for n := range 600 {
		for _, digit := range []string{"0", "5", "9"} {
			asksPan(t, strings.Repeat(digit, n), n >= 1 && n <= longest)
		}
	}
	for _, n := range []int{1 << 16, 1<<16 + 1, 1<<16 + longest} {
		asksPan(t, strings.Repeat("7", n), false)
	}
}

// P13.1: one sign that is no digit is enough, wherever it is; noughts ahead are digits as others.
func TestPanOfEachSign(t *testing.T) {
	for n := 1; n <= longest+1; n++ {
		for at := range n {
			for c := range 256 {
				b := []byte(strings.Repeat("4", n))
				b[at] = byte(c)
				asksPan(t, string(b), n <= longest && c >= '0' && c <= '9')
			}
		}
	}
	for _, pan := range []string{"\u0661", "1\uff112", "\x00", "1\x02", "\x031", "\x1c"} {
		asksPan(t, pan, false)
	}
}

// P13.1: what has no frame has no request, and nothing of it is taken.
func TestReadOfNoFrame(t *testing.T) {
	if p, n, e := Read(nil); p != (api.Pos{}) || n != 0 || e != api.ErrBytes {
		t.Errorf("Read(nil): %+v, %d, %v", p, n, e)
	}
	s := text(example())
	for _, s := range []string{"", "\x00", "\x02", "\x03", "\x02\x02", "\x02\x03", "\x03\x02", "\x02\x03\x02", "\x02\x03\x00", "P", "no frame", "\x02ab", "\x02ab\x03", "\x02ab\x03x", s, "\x02" + s, "\x02" + s + "\x03", s + "\x03" + string([]byte{sum(s)}), "\x02" + s + "\x03" + string([]byte{sum(s) ^ 1}), "\x02" + s + "\x03" + string([]byte{sum(s) ^ 3})} {
		refusesBytes(t, s, 0)
	}
}

// P13.1: a frame of no bytes, and of others than a request, is taken all the same.
func TestReadOfFramesOfOthers(t *testing.T) {
	s := text(example())
	for _, between := range []string{"", "\x00", "P", "p", "PP", "0", " ", s[1:], s[1:] + "P", "P" + s, " " + s, s + " ", s + "\n", "\n" + s, s + "\x00", s + s, strings.ToLower(s), "12\x1c3", "11\x1c1\x1c2\x1c51\x1c3", strings.Repeat("P", 500), strings.Repeat("0", 500), "P" + strings.Repeat("0", 499)} {
		refusesFrame(t, between)
	}
}

// P13.1: no other first sign than the one goes.
func TestReadOfEachFirstSign(t *testing.T) {
	for _, p := range samples() {
		s := text(p)
		for c := range 256 {
			other := string([]byte{byte(c)}) + s[1:]
			if ok := asksModel(t, framed(other)); ok != (c == 'P') {
				t.Errorf("first sign %d: %v", c, ok)
			}
		}
	}
}

// P13.1: a frame of each count of signs: from 25 to 43 there is a request in it.
func TestReadOfEachCountOfSigns(t *testing.T) {
	signs := text(api.Pos{Term: 1, Seq: 2, Amount: 3, Pan: strings.Repeat("4", 100)})
	for n := range 101 {
		s := framed(signs[:n])
		if ok := asksModel(t, s); ok != (n >= 25 && n <= 43) {
			t.Errorf("%d signs: %v", n, ok)
		}
		if n < 25 || n > 43 {
			refusesFrame(t, signs[:n])
			refusesFrame(t, signs[1:1+n])
		}
	}
}

// P13.1: a number has nothing but digits: no sign, no blank, and just so many.
func TestReadOfNumbersInOtherForms(t *testing.T) {
	for _, parts := range [][]string{
		{"+0123", "004567", "000000065432"}, {"-0123", "004567", "000000065432"}, {"  123", "004567", "000000065432"}, {"123  ", "004567", "000000065432"}, {"00 23", "004567", "000000065432"}, {"0x123", "004567", "000000065432"}, {"1_123", "004567", "000000065432"}, {"00.12", "004567", "000000065432"},
		{"00123", "+04567", "000000065432"}, {"00123", "-04567", "000000065432"}, {"00123", "  4567", "000000065432"}, {"00123", "4567  ", "000000065432"}, {"00123", "004 67", "000000065432"}, {"00123", "0x4567", "000000065432"}, {"00123", "4_4567", "000000065432"},
		{"00123", "004567", "+00000065432"}, {"00123", "004567", "-00000065432"}, {"00123", "004567", "       65432"}, {"00123", "004567", "65432       "}, {"00123", "004567", "00000006 432"}, {"00123", "004567", "0x0000065432"}, {"00123", "004567", "00000654.320"}, {"00123", "004567", "0000000654e2"},
	} {
		s := "P" + strings.Join(parts, "") + "0089"
		if len(s) != len(text(example())) {
			t.Fatalf("%q", s)
		}
		refusesFrame(t, s)
	}
	for _, s := range []string{"P123" + "004567" + "000000065432" + "0089", "P00123" + "4567" + "000000065432" + "0089", "P123" + "4567" + "65432" + "0089", "P00123\x1c004567\x1c000000065432\x1c0089", "P0012300456700000006543200\u066189", "P\uff1023004567000000065432" + "0089"} {
		asksModel(t, framed(s))
	}
}

// P13.1: one sign that is no digit is enough, in each place behind the first.
func TestReadOfEachSignInEachPlace(t *testing.T) {
	for _, p := range samples() {
		s := text(p)
		for at := 1; at < len(s); at++ {
			for c := range 256 {
				sign := string([]byte{byte(c)})
				ok := asksModel(t, framed(s[:at]+sign+s[at+1:]))
				if ok && (c < '0' || c > '9') {
					t.Errorf("%q with %q at %d", s, sign, at)
				}
			}
		}
	}
}

// badFrames answers frames that are none: too long, of another sum, cut, begun anew.
func badFrames() []string {
	s := text(example())
	return []string{
		"\x02ab\x03x", "\x02\x03\x00", "\x02\x02", "\x02", "\x03", "\x02ab", "ab\x03", "\x03\x03", "\x02" + s + "\x03" + string([]byte{sum(s) ^ 4}),
		"\x02" + s, "\x02" + s + "\x03", s + "\x03" + string([]byte{sum(s)}), framed(strings.Repeat("1", 501)), "\x02P00123\x02", "\x02" + s[:10],
	}
}

// P13.1: what stands ahead of a frame is taken with it; what stands behind it isn't.
func TestReadWithBytesAround(t *testing.T) {
	ahead := append(badFrames(), "", "z", "zz", "\x00", "P", text(example()), strings.Repeat("z", 1000))
	behind := []string{"", "\x00", "z", "\x02", "\x03", "\x02\x03", "9", framed(text(api.Pos{Term: 9, Seq: 9, Pan: "9", Amount: 9})), framed(""), "\x02ab\x03x", strings.Repeat("z", 1000)}
	for _, p := range samples() {
		s := framed(text(p))
		for _, first := range ahead {
			for _, last := range behind {
				if !asksModel(t, first+s+last) {
					t.Fatalf("the model: %q", first+s+last)
				}
				readsAs(t, first+s+last, p, len(first)+len(s))
			}
		}
	}
}

// P13.1: a frame that has no request is told, not the request behind it.
func TestReadOfAnotherFrameAhead(t *testing.T) {
	s := framed(text(example()))
	for _, between := range []string{"", "x", "P", "12\x1c3", "Q" + text(example())[1:], text(example())[:24], text(api.Pos{Term: 1, Pan: "1"}), strings.Repeat("1", 500)} {
		for _, ahead := range append(badFrames(), "", "z") {
			first := ahead + framed(between)
			refusesBytes(t, first+s, len(first))
			readsAs(t, (first + s)[len(first):], example(), len(s))
		}
	}
}

// P13.1: requests one behind another are read one by one, others and bad frames between them.
func TestReadOneByOne(t *testing.T) {
	var all string
	var want []api.Pos
	for i := range 300 {
		p := api.Pos{Term: uint16(i), Seq: uint32(i * i), Pan: strings.Repeat("3", 1+i%longest), Amount: int64(1 + i)}
		bad := badFrames()
		all += bad[i%len(bad)] + framed(text(p))
		want = append(want, p)
		if i%3 == 0 {
			all += "junk" + framed("none of these")
			want = append(want, api.Pos{})
		}
	}
	rest := []byte(all + "\x02P000")
	for i, w := range want {
		p, n, e := Read(rest)
		if p != w || n == 0 || (e == api.OK) != (w != api.Pos{}) {
			t.Fatalf("request %d: %+v, %d, %v, not %+v", i, p, n, e, w)
		}
		rest = rest[n:]
	}
	refusesBytes(t, string(rest), 0)
}

// P13.2: what was cut off, at its end or at its beginning, is no request.
func TestReadOfWhatIsCut(t *testing.T) {
	for _, p := range samples() {
		s := framed(text(p))
		for at := range len(s) {
			refusesBytes(t, s[:at], 0)
			refusesBytes(t, "ahead"+s[:at], 0)
			if at > 0 {
				refusesBytes(t, s[at:], 0)
			}
			// What was cut off doesn't hide the request that is said again behind it.
			readsAs(t, s[:at]+s, p, at+len(s))
		}
	}
}

// P13.2: of a text cut off there is no request either, though its frame be whole: but where it is the account that was cut.
func TestReadOfTextsThatAreCut(t *testing.T) {
	for _, p := range samples() {
		s := text(p)
		for at := range len(s) {
			if at < 25 {
				refusesFrame(t, s[:at])
			}
			if at > 0 {
				refusesFrame(t, s[at:])
			}
			asksModel(t, framed(s[:at]))
			asksModel(t, framed(s[:at]+s[at+1:]))
		}
	}
}

// P13.1: with each byte changed to each other one there is no frame, or another one, as its marks say.
func TestReadOfBytesThatAreChanged(t *testing.T) {
	for _, p := range samples() {
		s := framed(text(p))
		for at := range len(s) {
			for c := range 256 {
				if byte(c) == s[at] {
					continue
				}
				sign := string([]byte{byte(c)})
				if asksModel(t, s[:at]+sign+s[at+1:]) {
					t.Errorf("%q with %q at %d", s, sign, at)
				}
				asksModel(t, s[:at]+sign+s[at:])
			}
			asksModel(t, s[:at]+s[at+1:])
		}
	}
}

// P13.1: with a byte changed, put in or taken out, and the sum made right again, there is another request or none.
func TestReadOfTextsThatAreChanged(t *testing.T) {
	for _, p := range samples() {
		s := text(p)
		for at := range len(s) + 1 {
			for c := range 256 {
				sign := string([]byte{byte(c)})
				asksModel(t, framed(s[:at]+sign+s[at:]))
				if at == len(s) || byte(c) == s[at] {
					continue
				}
				changed := framed(s[:at] + sign + s[at+1:])
				if asksModel(t, changed) {
					if other, _, _ := Read([]byte(changed)); other == p {
						t.Errorf("%q: %+v", changed, other)
					}
				}
			}
		}
	}
}

// randomPan answers an account, right as a rule.
func randomPan(r *rand.Rand) string {
	b := make([]byte, 1+r.Intn(longest+1))
	for i := range b {
		b[i] = "0123456789"[r.Intn(10)]
	}
	if r.Intn(20) == 0 {
		b[r.Intn(len(b))] = byte(r.Intn(256))
	}
	return string(b)
}

// P13.1: requests at random: Right and Put agree, and what Put makes is read as the same request.
func TestRequestsAtRandom(t *testing.T) {
	r := rand.New(rand.NewSource(13))
	good := 0
	for range 50000 {
		p := api.Pos{Term: uint16(r.Uint32()), Seq: r.Uint32() >> r.Intn(32), Pan: randomPan(r), Amount: int64(r.Uint64() >> (20 + r.Intn(44)))}
		if r.Intn(20) == 0 {
			p.Amount = -p.Amount
		}
		if want, ok := modelRequest(text(p)); ok && want == p {
			asks(t, p, text(p))
			good++
		} else {
			refuses(t, p)
		}
	}
	if good < 10000 || good > 45000 {
		t.Errorf("%d of 50000 were right", good)
	}
}

// P13.1: frames at random, of the signs that requests have, and bytes at random.
func TestBytesAtRandom(t *testing.T) {
	r := rand.New(rand.NewSource(14))
	good := 0
	for range 50000 {
		b := make([]byte, 20+r.Intn(28))
		for i := range b {
			b[i] = "0000000000000123456"[r.Intn(19)]
		}
		b[0] = 'P'
		if r.Intn(10) == 0 {
			b[r.Intn(len(b))] = " P+-\x00\x02\x03/:"[r.Intn(9)]
		}
		// Most amounts at random are too great: their first digits are noughts here.
		if r.Intn(10) > 0 {
			copy(b[12:min(len(b), 18)], "000000")
		}
		if asksModel(t, framed(string(b))) {
			good++
		}
		for i := range b {
			b[i] = "\x02\x02\x03\x03\x01P"[r.Intn(6)]
		}
		asksModel(t, string(b))
		r.Read(b)
		asksModel(t, string(b))
		asksModel(t, framed(string(b)))
	}
	if good < 1000 {
		t.Errorf("%d were right", good)
	}
}

// P13.1: two requests that differ never have the same frame.
func TestRequestsHaveOneForm(t *testing.T) {
	byBytes := map[string]api.Pos{}
	for _, term := range []uint16{0, 1, 10, 11, 111, 1111, 11111} {
		for _, seq := range []uint32{0, 1, 10, 11, 111, 1111, 11111, 111111} {
			for _, amount := range []int64{1, 10, 11, 111, 1111, 11111, 111111} {
				for _, pan := range []string{"0", "00", "1", "01", "10", "11", "001", "111"} {
					p := api.Pos{Term: term, Seq: seq, Pan: pan, Amount: amount}
					b, e := Put(p)
					if other, ok := byBytes[string(b)]; ok || e != api.OK {
						t.Fatalf("%q: %+v, %+v, %v", b, p, other, e)
					}
					byBytes[string(b)] = p
				}
			}
		}
	}
	for s, p := range byBytes {
		readsAs(t, s, p, len(s))
	}
}

// spare is how much room stands behind what is handed in.
const spare = 64

// P13.1: DOC.md's rule 3: what is handed in stays, its spare room too, and the request stays when it is changed.
func TestBytesHandedInStay(t *testing.T) {
	texts := []string{"", "x", "\x02", framed(""), framed("P"), framed("P0000300000400000000000051"), "\x02ab\x03x"}
	for _, p := range samples() {
		texts = append(texts, framed(text(p)), "\x02ab"+framed(text(p))+"behind")
	}
	for _, s := range texts {
		all := append([]byte(s), bytes.Repeat([]byte("-"), spare)...)
		before := string(all)
		p, n, e := Read(all[:len(s):len(all)])
		if string(all) != before {
			t.Fatalf("%q was changed to %q", before, all)
		}
		for i := range all {
			all[i] = '7'
		}
		between, taken, _ := modelFrame(s)
		want, ok := modelRequest(between)
		if p != want || n != taken || (e == api.OK) != ok {
			t.Fatalf("Read(%q): %+v, %d, %v, not %+v, %d", s, p, n, e, want, taken)
		}
	}
}

// P13.1: DOC.md's rule 3: what is handed in isn't read beyond its end, though there be a whole frame with its spare room.
func TestSpareRoomIsNoInput(t *testing.T) {
	s := framed(text(example()))
	all := []byte(s + s)
	for n := range len(s) {
		if p, taken, e := Read(all[:n]); p != (api.Pos{}) || taken != 0 || e != api.ErrBytes {
			t.Fatalf("Read(%q): %+v, %d, %v", all[:n], p, taken, e)
		}
	}
}

// P13.1: DOC.md's rule 3: what is answered is new memory.
func TestBytesAnsweredAreNew(t *testing.T) {
	for _, p := range samples() {
		want := framed(text(p))
		first, _ := Put(p)
		second, _ := Put(p)
		second = second[:cap(second)]
		for i := range second {
			second[i] = '*'
		}
		if string(first) != want {
			t.Fatalf("%q, then %q", want, first)
		}
		first = first[:cap(first)]
		for i := range first {
			first[i] = '+'
		}
		asks(t, p, want[1:len(want)-2])
	}
}

// P13.1: what is answered hangs on what is handed in, on nothing that came before.
func TestAnswersDoNotHangOnOthers(t *testing.T) {
	for range 3 {
		for _, p := range samples() {
			asks(t, p, text(p))
			refusesBytes(t, "\x02"+text(p), 0)
			refusesFrame(t, text(p)+" ")
			refuses(t, api.Pos{Pan: "1"})
			asks(t, api.Pos{Pan: "0", Amount: 1}, "P000000000000000000000010")
		}
	}
}
