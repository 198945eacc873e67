package frame

import (
	"bytes"
	"encoding/binary"
	"fmt"
	"hash/crc32"
	"math"
	"math/rand"
	"strings"
	"testing"

	"guichet/api"
)

const nineteen = "1234567890123456789"

// full answers a right record of which each part is another one, and not zero.
func full() api.Rec {
	return api.Rec{
		Kind: api.RecLoad, Key: api.Key{Term: 0x0102, Stan: 0x03040506}, Pan: "4000", Amount: 0x0708,
		Notes: api.Notes{0x0910, 0x1112, 0x1314, 0x1516}, Rej: api.Notes{0x1718, 0x191a, 0x1b1c, 0x1d1e}, Loaded: api.Notes{0x1f20, 0x2122, 0x2324, 0x2526},
	}
}

// least and most answer the right records whose parts are all at their limits.
func least() api.Rec { return api.Rec{Kind: 1} }

func most() api.Rec {
	n := api.Notes{api.MaxCount, api.MaxCount, api.MaxCount, api.MaxCount}
	return api.Rec{Kind: api.RecKinds - 1, Key: api.Key{Term: math.MaxUint16, Stan: math.MaxUint32}, Pan: strings.Repeat("9", 19), Amount: api.MaxAmount, Notes: n, Rej: n, Loaded: n}
}

// with answers r when change was at it.
func with(r api.Rec, change func(r *api.Rec)) api.Rec {
	change(&r)
	return r
}

// rights answers right records: those at the limits part by part, and others.
func rights() []api.Rec {
	out := []api.Rec{full(), least(), most()}
	for _, r := range []api.Rec{full(), least(), most()} {
		for kind := 1; kind < api.RecKinds; kind++ {
			out = append(out, with(r, func(r *api.Rec) { r.Kind = kind }))
		}
		for _, term := range []uint16{0, 1, 255, 256, math.MaxUint16} {
			out = append(out, with(r, func(r *api.Rec) { r.Key.Term = term }))
		}
		for _, stan := range []uint32{0, 1, 255, 256, 1 << 16, 1 << 24, api.MaxStan, api.MaxStan + 1, 1 << 31, math.MaxUint32} {
			out = append(out, with(r, func(r *api.Rec) { r.Key.Stan = stan }))
		}
		for _, amount := range []int64{0, 1, 255, 256, 65535, 65536, api.MaxAmount - 1, api.MaxAmount} {
			out = append(out, with(r, func(r *api.Rec) { r.Amount = amount }))
		}
		for length := 0; length <= 19; length++ {
			out = append(out, with(r, func(r *api.Rec) { r.Pan = nineteen[:length] }))
		}
		for _, digit := range "0123456789" {
			out = append(out, with(r, func(r *api.Rec) { r.Pan = string(digit) }))
		}
		for i := range api.Cassettes {
			for _, count := range []int{0, 1, 255, 256, api.MaxCount - 1, api.MaxCount} {
				out = append(out, with(r, func(r *api.Rec) { r.Notes[i] = count }))
				out = append(out, with(r, func(r *api.Rec) { r.Rej[i] = count }))
				out = append(out, with(r, func(r *api.Rec) { r.Loaded[i] = count }))
			}
		}
	}
	return out
}

// wrongs answers records of which one part alone isn't right, of several right ones.
func wrongs() []api.Rec {
	var out []api.Rec
	for _, r := range []api.Rec{full(), least(), most()} {
		for _, kind := range []int{0, -1, api.RecKinds, api.RecKinds + 1, 255, 256, 257, 256 + api.RecAck, math.MinInt, math.MinInt + 1, math.MaxInt} {
			out = append(out, with(r, func(r *api.Rec) { r.Kind = kind }))
		}
		for _, amount := range []int64{-1, api.MaxAmount + 1, 1 << 31, 1 << 32, 1<<32 + 5, math.MinInt64, math.MinInt64 + 5, math.MaxInt64} {
			out = append(out, with(r, func(r *api.Rec) { r.Amount = amount }))
		}
		for _, pan := range []string{nineteen + "0", nineteen + nineteen, strings.Repeat("1", 255), strings.Repeat("1", 256), strings.Repeat("1", 260), strings.Repeat("1", 70000)} {
			out = append(out, with(r, func(r *api.Rec) { r.Pan = pan }))
		}
		for c := range 256 {
			if c >= '0' && c <= '9' {
				continue
			}
			for _, around := range [][2]string{{"", ""}, {"12", ""}, {"", "34"}, {nineteen[1:], ""}, {"", nineteen[1:]}, {"12", "34"}} {
				out = append(out, with(r, func(r *api.Rec) { r.Pan = around[0] + string([]byte{byte(c)}) + around[1] }))
			}
		}
		for _, pan := range []string{"\u0664", "１２", "-1", "+1", " 1", "1 ", "1.5", "\x00", "4000\n"} {
			out = append(out, with(r, func(r *api.Rec) { r.Pan = pan }))
		}
		for i := range api.Cassettes {
			for _, count := range []int{-1, api.MaxCount + 1, 65535, 65536, 65537, 1 << 32, math.MinInt, math.MinInt + 1, math.MaxInt} {
				out = append(out, with(r, func(r *api.Rec) { r.Notes[i] = count }))
				out = append(out, with(r, func(r *api.Rec) { r.Rej[i] = count }))
				out = append(out, with(r, func(r *api.Rec) { r.Loaded[i] = count }))
			}
		}
	}
	return out
}

// castagnoli answers the library's own CRC-32C.
func castagnoli(b []byte) uint32 {
	return crc32.Checksum(b, crc32.MakeTable(crc32.Castagnoli))
}

// framed answers a body with all that lies around it, its sum right.
func framed(body string) []byte {
	out := append([]byte{0xA5, byte(len(body))}, body...)
	return binary.BigEndian.AppendUint32(out, castagnoli([]byte(body)))
}

// bodied answers the body of a record, right or not, its numbers cut to their widths.
func bodied(r api.Rec) string {
	out := []byte{byte(r.Kind)}
	out = binary.BigEndian.AppendUint16(out, r.Key.Term)
	out = binary.BigEndian.AppendUint32(out, r.Key.Stan)
	out = binary.BigEndian.AppendUint32(out, uint32(r.Amount))
	for _, l := range []api.Notes{r.Notes, r.Rej, r.Loaded} {
		for _, count := range l {
			out = binary.BigEndian.AppendUint16(out, uint16(count))
		}
	}
	out = append(out, byte(len(r.Pan)))
	return string(out) + r.Pan
}

// put answers the bytes of a record that must be right.
func put(t *testing.T, r api.Rec) []byte {
	t.Helper()
	b, e := Put(r)
	if e != api.OK {
		t.Fatalf("Put(%#v): %v", r, e)
	}
	return b
}

// refused asks that Read answers just this error, and zeros.
func refused(t *testing.T, what string, b []byte, want api.Errno) {
	t.Helper()
	if r, n, e := Read(b); e != want || n != 0 || r != (api.Rec{}) {
		t.Fatalf("%s: Read(%x): %#v, %d, %v; want %v", what, b, r, n, e, want)
	}
}

// reads asks that Read answers just this record, of so many bytes.
func reads(t *testing.T, what string, b []byte, want api.Rec, size int) {
	t.Helper()
	if r, n, e := Read(b); e != api.OK || n != size || r != want {
		t.Fatalf("%s: Read(%x): %#v, %d, %v; want %#v, %d", what, b, r, n, e, want, size)
	}
}

// P4.1
func TestSumOfKnownBytes(t *testing.T) {
	up, down := make([]byte, 32), make([]byte, 32)
	for i := range up {
		up[i], down[31-i] = byte(i), byte(i)
	}
	for _, x := range []struct {
		b    []byte
		want uint32
	}{
		{nil, 0}, {[]byte{}, 0}, {[]byte("123456789"), 0xe3069283}, {[]byte("a"), 0xc1d04330},
		{make([]byte, 32), 0x8a9136aa}, {bytes.Repeat([]byte{255}, 32), 0x62a8ab43}, {up, 0x46dd794e}, {down, 0x113fdb5c},
		{[]byte{0}, 0x527d5351}, {[]byte{255}, 0xff000000}, {bytes.Repeat([]byte{255}, 4), 0xffffffff},
	} {
		if got := Sum(x.b); got != x.want {
			t.Errorf("Sum(%x): %x; want %x", x.b, got, x.want)
		}
	}
}

// P4.1
func TestSumIsCastagnolis(t *testing.T) {
	for c := range 256 {
		for _, b := range [][]byte{{byte(c)}, {0, byte(c)}, {byte(c), 0}, {255, byte(c), 255}} {
			if got, want := Sum(b), castagnoli(b); got != want {
				t.Errorf("Sum(%x): %x; want %x", b, got, want)
			}
		}
	}
	r := rand.New(rand.NewSource(4))
	for length := range 600 {
		b := make([]byte, length)
		r.Read(b)
		if got, want := Sum(b), castagnoli(b); got != want {
			t.Errorf("Sum of %d bytes: %x; want %x", length, got, want)
		}
	}
	long := bytes.Repeat([]byte("guichet"), 1<<16)
	if got, want := Sum(long), castagnoli(long); got != want {
		t.Errorf("Sum of %d bytes: %x; want %x", len(long), got, want)
	}
}

// P4.1
func TestRight(t *testing.T) {
	for _, r := range rights() {
		if !Right(r) {
			t.Fatalf("Right(%#v): false", r)
		}
	}
	for _, r := range wrongs() {
		if Right(r) {
			t.Fatalf("Right(%#v): true", r)
		}
	}
	if Right(api.Rec{}) {
		t.Error("Right of zeros: true")
	}
}

// P4.2
func TestPutWrittenOut(t *testing.T) {
	for _, x := range []struct {
		r    api.Rec
		body string
	}{
		{least(), "\x01" + strings.Repeat("\x00", 35)},
		{full(), "\x08\x01\x02\x03\x04\x05\x06\x00\x00\x07\x08\x09\x10\x11\x12\x13\x14\x15\x16\x17\x18\x19\x1a\x1b\x1c\x1d\x1e\x1f\x20\x21\x22\x23\x24\x25\x26\x044000"},
		{most(), "\x09\xff\xff\xff\xff\xff\xff\x00\x0f\x42\x40" + strings.Repeat("\x27\x10", 12) + "\x139999999999999999999"},
	} {
		want := framed(x.body)
		if b, e := Put(x.r); e != api.OK || !bytes.Equal(b, want) {
			t.Errorf("Put(%#v): %x, %v; want %x", x.r, b, e, want)
		}
		if want[0] != 0xA5 || int(want[1]) != len(x.body) {
			t.Errorf("the test's own bytes are wrong: %x", want)
		}
	}
}

// P4.2
func TestPutTellsEachPart(t *testing.T) {
	for _, r := range rights() {
		b, e := Put(r)
		if want := framed(bodied(r)); e != api.OK || !bytes.Equal(b, want) {
			t.Errorf("Put(%#v): %x, %v; want %x", r, b, e, want)
		}
		if want := 42 + len(r.Pan); len(b) != want || len(b) > api.MaxRecord {
			t.Errorf("Put(%#v): %d bytes; want %d", r, len(b), want)
		}
	}
}

// P4.2
func TestPutOfOneThatIsNotRight(t *testing.T) {
	for _, r := range append(wrongs(), api.Rec{}) {
		if b, e := Put(r); e != api.ErrField || len(b) != 0 {
			t.Fatalf("Put(%#v): %x, %v", r, b, e)
		}
	}
}

// P4.2, P4.3
func TestReadTellsWhatWasPut(t *testing.T) {
	for _, r := range rights() {
		b := put(t, r)
		reads(t, "alone", b, r, len(b))
	}
}

// P4.2
func TestReadLeavesWhatIsBehind(t *testing.T) {
	next := put(t, most())
	for _, r := range []api.Rec{full(), least(), most()} {
		b := put(t, r)
		for _, behind := range [][]byte{{0}, {0xA5}, {255}, {1, 2}, make([]byte, 100), bytes.Repeat([]byte{0xA5}, 300), next, next[:7]} {
			reads(t, "more behind it", append(append([]byte(nil), b...), behind...), r, len(b))
		}
	}
	var all []byte
	for _, r := range rights() {
		all = append(all, put(t, r)...)
	}
	for i, want := range rights() {
		r, n, e := Read(all)
		if e != api.OK || r != want || n != 42+len(want.Pan) {
			t.Fatalf("the record %d of many: %#v, %d, %v; want %#v", i, r, n, e, want)
		}
		all = all[n:]
	}
	if len(all) != 0 {
		t.Errorf("%d bytes are left behind the last record", len(all))
	}
}

// P4.2, P4.3
func TestCutOffAtEachByte(t *testing.T) {
	refused(t, "nil", nil, api.ErrBytes)
	refused(t, "empty", []byte{}, api.ErrBytes)
	for _, r := range rights() {
		b := put(t, r)
		for i := range b {
			refused(t, fmt.Sprintf("cut off at %d", i), append([]byte(nil), b[:i]...), api.ErrBytes)
			// The rest lies in the spare room: it isn't there for who reads.
			refused(t, fmt.Sprintf("cut off at %d, with spare room", i), b[:i], api.ErrBytes)
		}
	}
}

// P4.3: what a torn write leaves is the whole record, or none; whatever lay there ahead.
func TestBegunOverOtherBytes(t *testing.T) {
	noughts, ones := make([]byte, 100), bytes.Repeat([]byte{255}, 100)
	marks := bytes.Repeat([]byte{0xA5}, 100)
	for _, r := range rights() {
		b := put(t, r)
		for i := 1; i < len(b); i++ {
			for _, old := range [][]byte{noughts, ones, marks} {
				torn := append(append([]byte(nil), b[:i]...), old[i:]...)
				whole := bytes.Equal(torn[:len(b)], b)
				got, n, e := Read(torn)
				if (e == api.OK) != whole {
					t.Fatalf("%x, of %#v torn at %d: %#v, %d, %v", torn, r, i, got, n, e)
				}
			}
		}
	}
}

// P4.3: one record begun over another one is the one or the other.
func TestBegunOverAnotherRecord(t *testing.T) {
	records := []api.Rec{full(), least(), most(), with(full(), func(r *api.Rec) { r.Pan = nineteen }), with(full(), func(r *api.Rec) { r.Notes[0]++ }), with(full(), func(r *api.Rec) { r.Pan = "4001" })}
	for _, old := range records {
		for _, r := range records {
			was, b := put(t, old), put(t, r)
			for i := 0; i <= len(b); i++ {
				torn := append([]byte(nil), b[:i]...)
				torn = append(torn, was[min(i, len(was)):]...)
				got, n, e := Read(torn)
				if e == api.OK && !(got == r && bytes.Equal(torn[:n], b)) && !(got == old && bytes.Equal(torn[:n], was)) {
					t.Errorf("%#v over %#v, torn at %d: %#v", r, old, i, got)
				}
			}
		}
	}
}

// P4.2
func TestAnotherBeginning(t *testing.T) {
	for c := range 256 {
		b := put(t, full())
		if b[0] = byte(c); c != 0xA5 {
			refused(t, "another mark", b, api.ErrBytes)
		}
	}
	b := put(t, full())
	refused(t, "a byte ahead", append([]byte{0}, b...), api.ErrBytes)
	refused(t, "a mark ahead", append([]byte{0xA5}, b...), api.ErrBytes)
}

// P4.2
func TestAnotherLength(t *testing.T) {
	for _, r := range []api.Rec{full(), least(), most()} {
		right := put(t, r)[1]
		for c := range 256 {
			b := append(put(t, r), bytes.Repeat([]byte("0"), 300)...)
			if b[1] = byte(c); b[1] != right {
				refused(t, "another length of the body", b, api.ErrBytes)
			}
		}
	}
}

// P4.2: the two lengths must be of each other, whatever the sum.
func TestBodiesOfOtherLengths(t *testing.T) {
	long := bodied(full())[:35]
	for size := 0; size <= 255; size++ {
		for _, told := range []int{0, 1, 4, 18, 19, 20, 219, 255, max(size-36, 0)} {
			body := long + string([]byte{byte(told)}) + strings.Repeat("7", 255)
			b := framed(body[:size])
			if size == 36+told && told <= 19 {
				reads(t, "a body of its length", b, with(full(), func(r *api.Rec) { r.Pan = strings.Repeat("7", told) }), 42+told)
			} else {
				refused(t, fmt.Sprintf("a body of %d, an account of %d", size, told), b, api.ErrBytes)
			}
		}
	}
}

// P4.2: bytes of a record that isn't right are none, their sum right or not.
func TestNumbersThatAreNotRight(t *testing.T) {
	counts := []int{11, 13, 15, 17, 19, 21, 23, 25, 27, 29, 31, 33}
	for _, x := range []struct {
		places []int
		parts  []string
	}{
		{[]int{0}, []string{"\x00", "\x0a", "\x0b", "\x7f", "\x80", "\xff"}},
		{[]int{7}, []string{"\x00\x0f\x42\x41", "\x00\x10\x00\x00", "\x01\x00\x00\x00", "\x7f\xff\xff\xff", "\x80\x00\x00\x00", "\xff\xff\xff\xff"}},
		{counts, []string{"\x27\x11", "\x28\x00", "\x7f\xff", "\x80\x00", "\xff\xff"}},
	} {
		for _, at := range x.places {
			for _, part := range x.parts {
				for _, body := range []string{bodied(least()), bodied(full()), bodied(most())} {
					b := framed(body[:at] + part + body[at+len(part):])
					what := fmt.Sprintf("%x at %d", part, at)
					refused(t, what, b, api.ErrBytes)
					b[len(b)-1] ^= 1
					refused(t, what+", another sum", b, api.ErrBytes)
				}
			}
		}
	}
}

// P4.2
func TestAccountsThatAreNotRight(t *testing.T) {
	for c := range 256 {
		for at := range nineteen {
			r := with(most(), func(r *api.Rec) { r.Pan = nineteen[:at] + string([]byte{byte(c)}) + nineteen[at+1:] })
			b := framed(bodied(r))
			if c >= '0' && c <= '9' {
				reads(t, "another digit", b, r, len(b))
				continue
			}
			what := fmt.Sprintf("the byte %x at %d", c, at)
			refused(t, what, b, api.ErrBytes)
			b[len(b)-1] ^= 1
			refused(t, what+", another sum", b, api.ErrBytes)
		}
	}
	for _, pan := range []string{nineteen + "0", nineteen + nineteen, strings.Repeat("1", 219)} {
		refused(t, "an account that is too long", framed(bodied(api.Rec{Kind: 1, Pan: pan})), api.ErrBytes)
	}
}

// P4.2
func TestAnotherSum(t *testing.T) {
	for _, r := range rights() {
		b := put(t, r)
		for i := len(b) - 4; i < len(b); i++ {
			for _, turn := range []byte{1, 2, 16, 128, 255} {
				c := append([]byte(nil), b...)
				c[i] ^= turn
				refused(t, "another sum", c, api.ErrSum)
				refused(t, "another sum, more behind it", append(c, b...), api.ErrSum)
			}
		}
	}
	b := put(t, full())
	c := append([]byte(nil), b...)
	for i := range 4 {
		c[len(c)-1-i] = b[len(b)-4+i]
	}
	refused(t, "the sum's lowest byte first", c, api.ErrSum)
	binary.BigEndian.PutUint32(c[len(c)-4:], castagnoli(b[:len(b)-4]))
	refused(t, "the sum of mark and length, too", c, api.ErrSum)
	binary.BigEndian.PutUint32(c[len(c)-4:], crc32.ChecksumIEEE(b[2:len(b)-4]))
	refused(t, "the sum by another polynomial", c, api.ErrSum)
}

// P4.2: right bytes of another record have another sum; bytes of no right one are told as that.
func TestOneBitTurned(t *testing.T) {
	for _, r := range rights() {
		b := put(t, r)
		for i := range b {
			for bit := range 8 {
				c := append([]byte(nil), b...)
				c[i] ^= 1 << bit
				if want := modelled(c); want == api.OK {
					t.Fatalf("one bit turned at %d is still right: %x", i, c)
				} else {
					refused(t, fmt.Sprintf("bit %d turned at %d", bit, i), c, want)
				}
			}
		}
	}
}

// modelled answers which error bytes have, by asking whether those of a right record are the same.
func modelled(b []byte) api.Errno {
	if len(b) < 42 {
		return api.ErrBytes
	}
	r := api.Rec{Kind: int(b[2]), Key: api.Key{Term: binary.BigEndian.Uint16(b[3:]), Stan: binary.BigEndian.Uint32(b[5:])}, Amount: int64(binary.BigEndian.Uint32(b[9:]))}
	for i := range api.Cassettes {
		r.Notes[i] = int(binary.BigEndian.Uint16(b[13+2*i:]))
		r.Rej[i] = int(binary.BigEndian.Uint16(b[21+2*i:]))
		r.Loaded[i] = int(binary.BigEndian.Uint16(b[29+2*i:]))
	}
	length := int(b[37])
	if len(b) < 42+length {
		return api.ErrBytes
	}
	r.Pan = string(b[38 : 38+length])
	want, e := Put(r)
	if e != api.OK || !bytes.HasPrefix(b, want[:len(want)-4]) {
		return api.ErrBytes
	}
	if !bytes.HasPrefix(b, want) {
		return api.ErrSum
	}
	return api.OK
}

// P4.2: whatever the bytes are.
func TestReadAgainstAModel(t *testing.T) {
	records := rights()
	seen := map[api.Errno]int{}
	for seed := range int64(60000) {
		r := rand.New(rand.NewSource(seed))
		b := append(put(t, records[r.Intn(len(records))]), make([]byte, r.Intn(40))...)
		for range r.Intn(4) {
			b[r.Intn(len(b))] = byte(r.Intn(256) >> r.Intn(8))
		}
		if body := int(b[1]); r.Intn(3) > 0 && len(b) >= body+6 {
			binary.BigEndian.PutUint32(b[2+body:], castagnoli(b[2:2+body]))
		}
		if r.Intn(4) == 0 {
			b = b[:r.Intn(len(b)+1)]
		}
		want := modelled(b)
		seen[want]++
		got, n, e := Read(b)
		if e != want || e != api.OK && (n != 0 || got != (api.Rec{})) {
			t.Fatalf("seed %d: Read(%x): %#v, %d, %v; want %v", seed, b, got, n, e, want)
		}
		if e == api.OK && !bytes.Equal(put(t, got), b[:n]) {
			t.Fatalf("seed %d: Read(%x): %#v, %d: other bytes", seed, b, got, n)
		}
	}
	for _, e := range []api.Errno{api.OK, api.ErrBytes, api.ErrSum} {
		if seen[e] < 500 {
			t.Errorf("%v: seen but %d times", e, seen[e])
		}
	}
}

// DOC rule 1: all calls take all bytes, and end.
func TestReadBearsWhateverComes(t *testing.T) {
	r := rand.New(rand.NewSource(44))
	for range 20000 {
		b := make([]byte, r.Intn(300))
		r.Read(b)
		if len(b) > 1 && r.Intn(4) > 0 {
			b[0], b[1] = 0xA5, byte(30+r.Intn(30))
		}
		if got, n, e := Read(b); e != modelled(b) || e != api.OK && (n != 0 || got != (api.Rec{})) {
			t.Fatalf("Read(%x): %#v, %d, %v", b, got, n, e)
		}
	}
}

// P4.1, P4.2, DOC rule 3
func TestNobodyElsesMemory(t *testing.T) {
	record := full()
	b := put(t, record)
	whole := append(append([]byte(nil), b...), "behind it"...)
	was := append([]byte(nil), whole...)
	Sum(whole[:3])
	Read(whole[:9])
	Read(whole[:len(b)])
	got, _, e := Read(whole)
	if !bytes.Equal(whole, was) {
		t.Errorf("what was handed in was changed: %x", whole)
	}
	clear(whole)
	if e != api.OK || got != record {
		t.Errorf("what was handed in is kept: %#v, %v", got, e)
	}
	first, second := put(t, record), put(t, record)
	clear(first)
	_ = append(first, "more"...)
	if !bytes.Equal(second, b) || !bytes.Equal(put(t, record), b) {
		t.Error("two answers of Put share memory")
	}
}
