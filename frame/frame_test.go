package frame

import (
	"bytes"
	"encoding/binary"
	"hash/crc32"
	"math"
	"slices"
	"testing"

	"versionmap/api"
)

// pattern returns n bytes that do not repeat soon.
func pattern(n int) []byte {
	b := make([]byte, n)
	for i := range b {
		b[i] = byte(i*7 + i/256*11 + i/65536)
	}
	return b
}

// checksumByDefinition divides bit by bit, without a table.
func checksumByDefinition(b []byte) uint32 {
	c := uint32(0xFFFFFFFF)
	for _, x := range b {
		c ^= uint32(x)
		for range 8 {
			odd := c&1 == 1
			c >>= 1
			if odd {
				c ^= 0x82F63B78
			}
		}
	}
	return ^c
}

// frameByDefinition puts the three parts of P2.2 together with the standard library.
func frameByDefinition(payload []byte) []byte {
	b := binary.AppendUvarint(nil, uint64(len(payload)))
	b = append(b, payload...)
	return binary.BigEndian.AppendUint32(b, crc32.Checksum(b, crc32.MakeTable(crc32.Castagnoli)))
}

// framesOf returns the frames of the payloads one after the other, and where each of them ends.
func framesOf(payloads []string) ([]byte, []int) {
	var b []byte
	var ends []int
	for _, p := range payloads {
		b = append(b, frameByDefinition([]byte(p))...)
		ends = append(ends, len(b))
	}
	return b, ends
}

// checkNext fails unless Next returns exactly this.
func checkNext(t *testing.T, b []byte, at int, payload []byte, next int, err api.Errno) {
	t.Helper()
	p, n, e := Next(b, at)
	if !bytes.Equal(p, payload) || n != next || e != err {
		t.Errorf("P2.3: Next at %d: %d bytes, %d, %d; want %d bytes, %d, %d", at, len(p), n, e, len(payload), next, err)
	}
}

// checkSplit fails unless Split returns these payloads and this end.
func checkSplit(t *testing.T, b []byte, payloads []string, end int) {
	t.Helper()
	l, e := Split(b)
	same := slices.EqualFunc(l, payloads, func(p []byte, want string) bool { return string(p) == want })
	if !same || e != end {
		t.Errorf("P2.4: Split of %x: %q, %d; want %q, %d", b, l, e, payloads, end)
	}
}

func TestChecksumKnown(t *testing.T) {
	var ascending []byte
	for i := range 32 {
		ascending = append(ascending, byte(i))
	}
	descending := slices.Clone(ascending)
	slices.Reverse(descending)
	for i, c := range []struct {
		b    []byte
		want uint32
	}{
		{nil, 0},
		{[]byte{}, 0},
		{[]byte("123456789"), 0xE3069283},
		{[]byte("a"), 0xC1D04330},
		{make([]byte, 32), 0x8A9136AA},
		{bytes.Repeat([]byte{0xff}, 32), 0x62A8AB43},
		{ascending, 0x46DD794E},
		{descending, 0x113FDB5C},
	} {
		if got := Checksum(c.b); got != c.want {
			t.Errorf("P2.1: row %d: %08x, want %08x", i, got, c.want)
		}
	}
}

func TestChecksumAgainstDefinition(t *testing.T) {
	for i := range 1 << 16 {
		b := []byte{byte(i >> 8), byte(i)}
		if Checksum(b) != checksumByDefinition(b) || Checksum(b[1:]) != checksumByDefinition(b[1:]) {
			t.Fatalf("P2.1: %x", b)
		}
	}
	b := pattern(3000)
	for n := range b {
		if Checksum(b[:n]) != checksumByDefinition(b[:n]) {
			t.Fatalf("P2.1: %d bytes", n)
		}
	}
	for x := range 256 {
		one := bytes.Repeat([]byte{byte(x)}, 1000)
		if Checksum(one) != checksumByDefinition(one) {
			t.Errorf("P2.1: a thousand bytes %d", x)
		}
	}
}

func TestExtend(t *testing.T) {
	s := pattern(300)
	for i := range len(s) + 1 {
		if got := Extend(Checksum(s[:i]), s[i:]); got != Checksum(s) {
			t.Errorf("P2.1: cut at %d: %08x", i, got)
		}
	}
	c := uint32(0)
	for i := range s {
		c = Extend(c, s[i:i+1])
	}
	if c != Checksum(s) {
		t.Error("P2.1: byte by byte")
	}
	table := crc32.MakeTable(crc32.Castagnoli)
	for _, c := range []uint32{0, 1, 0x80000000, 0xE3069283, math.MaxUint32} {
		if Extend(c, nil) != c || Extend(c, []byte{}) != c {
			t.Errorf("P2.1: nothing after %08x", c)
		}
		if Extend(c, s) != crc32.Update(c, table, s) {
			t.Errorf("P2.1: after %08x", c)
		}
	}
}

func TestAppend(t *testing.T) {
	for _, n := range []int{0, 1, 2, 126, 127, 128, 129, 16383, 16384, api.MaxFrame - 1, api.MaxFrame} {
		payload := pattern(n)
		for _, before := range []string{"", "z", "before"} {
			b, err := Append([]byte(before), payload)
			if want := slices.Concat([]byte(before), frameByDefinition(payload)); !bytes.Equal(b, want) || err != api.OK {
				t.Errorf("P2.2: %d bytes after %q: %d bytes, %d", n, before, len(b), err)
			}
		}
	}
	b, err := Append(nil, []byte("a"))
	if sum := checksumByDefinition([]byte("\x01a")); err != api.OK || len(b) != 6 || binary.BigEndian.Uint32(b[2:]) != sum {
		t.Errorf("P2.2: example: %x", b)
	}
	none, err := Append(nil, nil)
	empty, fail := Append([]byte{}, []byte{})
	if !bytes.Equal(none, empty) || err != fail || len(none) != 5 {
		t.Error("P2.2: nil and empty differ")
	}
}

func TestAppendTooLong(t *testing.T) {
	for _, n := range []int{api.MaxFrame + 1, 2 * api.MaxFrame} {
		for _, before := range [][]byte{nil, []byte("before")} {
			if b, err := Append(before, make([]byte, n)); len(b) != 0 || err != api.ErrInvalid {
				t.Errorf("P2.2: %d bytes: %d bytes, %d", n, len(b), err)
			}
		}
	}
}

func TestNext(t *testing.T) {
	for _, n := range []int{0, 1, 127, 128, 300, 16384, api.MaxFrame} {
		payload := pattern(n)
		f := frameByDefinition(payload)
		checkNext(t, f, 0, payload, len(f), api.OK)
		checkNext(t, slices.Concat([]byte{0x80, 0}, f, []byte{0x80}), 2, payload, len(f)+2, api.OK)
	}
}

func TestNextCut(t *testing.T) {
	for _, n := range []int{0, 1, 127, 128, 300} {
		f := frameByDefinition(pattern(n))
		for cut := range f {
			checkNext(t, f[:cut], 0, nil, 0, api.ErrTruncated)
		}
	}
	longest := frameByDefinition(pattern(api.MaxFrame))
	checkNext(t, longest[:len(longest)-1], 0, nil, 0, api.ErrTruncated)
	checkNext(t, longest[:3], 0, nil, 0, api.ErrTruncated)
}

func TestNextDamaged(t *testing.T) {
	for _, n := range []int{0, 1, 127, 128, 300} {
		f := frameByDefinition(pattern(n))
		start := len(f) - 4 - n
		for bit := range 8 * len(f) {
			f[bit/8] ^= 1 << (bit % 8)
			if bit/8 >= start {
				checkNext(t, f, 0, nil, 0, api.ErrChecksum)
			} else if _, _, err := Next(f, 0); err == api.OK {
				t.Errorf("P2.3: %d bytes: bit %d of the length", n, bit)
			}
			f[bit/8] ^= 1 << (bit % 8)
		}
	}
}

// TestNextSum reads a checksum of the payload without the length, and one with its bytes in the wrong order.
func TestNextSum(t *testing.T) {
	payload := []byte("abc")
	f := frameByDefinition(payload)
	checkNext(t, f, 0, payload, len(f), api.OK)
	binary.BigEndian.PutUint32(f[4:], checksumByDefinition(payload))
	checkNext(t, f, 0, nil, 0, api.ErrChecksum)
	binary.LittleEndian.PutUint32(f[4:], checksumByDefinition(f[:4]))
	checkNext(t, f, 0, nil, 0, api.ErrChecksum)
}

func TestNextErrors(t *testing.T) {
	f := string(frameByDefinition([]byte("abc")))
	for i, c := range []struct {
		s    string
		at   int
		want api.Errno
	}{
		{"", -1, api.ErrInvalid},
		{"", 1, api.ErrInvalid},
		{f, len(f) + 1, api.ErrInvalid},
		{f, -1, api.ErrInvalid},
		{f, math.MinInt, api.ErrInvalid},
		{f, math.MaxInt, api.ErrInvalid},
		{"\x80\x00", 3, api.ErrInvalid},
		{"", 0, api.ErrTruncated},
		{f, len(f), api.ErrTruncated},
		{"\x80", 0, api.ErrTruncated},
		{"\x80\x00", 0, api.ErrMalformed},
		{"\x83\x00" + f[1:], 0, api.ErrMalformed},
		{"\xff\xff\xff\xff\xff\xff\xff\xff\xff\x02", 0, api.ErrMalformed},
		{"\xff\xff\xff\xff\xff\xff\xff\xff\xff\x01", 0, api.ErrMalformed},
		{"\xff\xff\xff\xff\xff\xff\xff\xff\x7f", 0, api.ErrMalformed},
		{"\x80\x80\x80\x80\x80\x80\x80\x80\x80\x01", 0, api.ErrMalformed},
		{"\x80\x80\x80\x80\x10abcd", 0, api.ErrMalformed},
		{"\x81\x80\x40", 0, api.ErrMalformed},
		{"\x81\x80\x40abcdefgh", 0, api.ErrMalformed},
		{"\x80\x80\x40", 0, api.ErrTruncated},
		{"\x00", 0, api.ErrTruncated},
		{"\x00\x00\x00\x00", 0, api.ErrTruncated},
		{"\x03abc\x00\x00\x00", 0, api.ErrTruncated},
		{"\x00\x00\x00\x00\x00", 0, api.ErrChecksum},
		{"\x03abc\x00\x00\x00\x00", 0, api.ErrChecksum},
	} {
		p, next, err := Next([]byte(c.s), c.at)
		if len(p) != 0 || next != 0 || err != c.want {
			t.Errorf("P2.3: row %d: %d bytes, %d, %d; want %d", i, len(p), next, err, c.want)
		}
	}
	long := slices.Concat([]byte{0x81, 0x80, 0x40}, make([]byte, api.MaxFrame+5))
	checkNext(t, long, 0, nil, 0, api.ErrMalformed)
}

func TestSplit(t *testing.T) {
	payloads := []string{"one", "", "three", "", string(pattern(200))}
	b, ends := framesOf(payloads)
	checkSplit(t, b, payloads, len(b))
	checkSplit(t, nil, nil, 0)
	checkSplit(t, []byte{}, nil, 0)
	checkSplit(t, b[1:], nil, 0)
	whole := 0
	for cut := range b {
		if cut == ends[whole] {
			whole++
		}
		end := 0
		if whole > 0 {
			end = ends[whole-1]
		}
		checkSplit(t, b[:cut], payloads[:whole], end)
	}
	for _, after := range []string{"\x80\x00", "\x05\x05", "\x00\x00\x00\x00\x00", "\x81\x80\x40"} {
		checkSplit(t, slices.Concat(b, []byte(after)), payloads, len(b))
	}
}

// TestSplitDamaged holds that Split stops at the first wrong frame, although right ones follow.
func TestSplitDamaged(t *testing.T) {
	payloads := []string{"one", "", "three", "four"}
	b, ends := framesOf(payloads)
	begin := 0
	for i, end := range ends {
		b[end-1] ^= 1
		checkSplit(t, b, payloads[:i], begin)
		b[end-1] ^= 1
		begin = end
	}
}

func TestSplitMany(t *testing.T) {
	var b []byte
	for i := range 3000 {
		b = append(b, frameByDefinition([]byte{byte(i), byte(i >> 8)})...)
	}
	l, end := Split(b)
	if len(l) != 3000 || end != len(b) {
		t.Fatalf("P2.4: %d frames, %d", len(l), end)
	}
	for i, p := range l {
		if !bytes.Equal(p, []byte{byte(i), byte(i >> 8)}) {
			t.Errorf("P2.4: frame %d: %x", i, p)
		}
	}
}

// TestAppendNewMemory holds the rule that results share no memory with arguments, whatever room the argument has left.
func TestAppendNewMemory(t *testing.T) {
	whole := bytes.Repeat([]byte{9}, 64)
	first, _ := Append(whole[:3], whole[5:8])
	before := slices.Clone(first)
	second, _ := Append(whole[:3], whole[5:9])
	if !bytes.Equal(first, before) || bytes.Equal(first, second) {
		t.Error("P2.2: two results share memory")
	}
	clear(first)
	if !bytes.Equal(whole, bytes.Repeat([]byte{9}, 64)) {
		t.Error("P2.2: an argument has changed")
	}
	clear(whole)
	if !bytes.Equal(second[:3], []byte{9, 9, 9}) {
		t.Error("P2.2: the result has changed with the argument")
	}
}

func TestReadersNewMemory(t *testing.T) {
	b, _ := framesOf([]string{"one", "two", ""})
	before := slices.Clone(b)
	p, _, _ := Next(b, 0)
	l, _ := Split(b)
	clear(p)
	_ = append(p[:0], "longer than it was"...)
	clear(l[1])
	_ = append(l[0], "after"...)
	_ = append(l[1], "after"...)
	_ = append(l[2], "after"...)
	if !bytes.Equal(b, before) {
		t.Error("P2.3, P2.4: the argument shares memory with a result")
	}
	if string(l[0]) != "one" {
		t.Error("P2.4: two payloads share memory")
	}
	clear(b)
	if string(l[0]) != "one" {
		t.Error("P2.4: a payload has changed with the argument")
	}
	Checksum(before)
	Extend(1, before)
	if again, _ := framesOf([]string{"one", "two", ""}); !bytes.Equal(before, again) {
		t.Error("P2.1: the argument has changed")
	}
}
