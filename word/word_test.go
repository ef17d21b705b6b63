package word

import (
	"bytes"
	"encoding/binary"
	"math"
	"math/big"
	"math/bits"
	"slices"
	"testing"

	"versionmap/api"
)

// edges returns the powers of two with their neighbours and negations, in ascending order.
func edges() []int64 {
	l := []int64{math.MinInt64, math.MinInt64 + 1, math.MaxInt64 - 1, math.MaxInt64, 0, 10, -10, 300, -300}
	for shift := range 63 {
		p := int64(1) << shift
		l = append(l, p-1, p, p+1, -p-1, -p, -p+1)
	}
	slices.Sort(l)
	return slices.Compact(l)
}

// zigzagByDefinition computes 2n or -2n - 1 without wraparound.
func zigzagByDefinition(n int64) *big.Int {
	twice := new(big.Int).Mul(big.NewInt(n), big.NewInt(2))
	if n >= 0 {
		return twice
	}
	return twice.Neg(twice).Sub(twice, big.NewInt(1))
}

// uvarintByDefinition follows the wording of P1.2: first the bytes that are read, then the errors in order, then the value.
func uvarintByDefinition(b []byte, at int) (uint64, int, api.Errno) {
	if at < 0 || at > len(b) {
		return 0, 0, api.ErrInvalid
	}
	end := at
	for end < len(b) && end < at+10 {
		end++
		if b[end-1] < 128 {
			break
		}
	}
	read := b[at:end]
	if len(read) == 10 && read[9] > 1 || len(read) > 1 && read[len(read)-1] == 0 {
		return 0, 0, api.ErrMalformed
	}
	if len(read) == 0 || read[len(read)-1] >= 128 {
		return 0, 0, api.ErrTruncated
	}
	u := uint64(0)
	for i := len(read) - 1; i >= 0; i-- {
		u = u*128 + uint64(read[i]%128)
	}
	return u, end, api.OK
}

func checkUvarint(t *testing.T, b []byte, at int) {
	t.Helper()
	u, next, err := Uvarint(b, at)
	wantU, wantNext, wantErr := uvarintByDefinition(b, at)
	if u != wantU || next != wantNext || err != wantErr {
		t.Errorf("P1.2: Uvarint(%x, %d) = %d, %d, %d; want %d, %d, %d", b, at, u, next, err, wantU, wantNext, wantErr)
	}
}

func TestZigzag(t *testing.T) {
	for _, n := range edges() {
		u := Zigzag(n)
		if zigzagByDefinition(n).Cmp(new(big.Int).SetUint64(u)) != 0 {
			t.Errorf("P1.1: Zigzag(%d) = %d", n, u)
		}
		if Unzigzag(u) != n {
			t.Errorf("P1.1: Unzigzag(%d) = %d, want %d", u, Unzigzag(u), n)
		}
	}
	if Zigzag(-3) != 5 || Zigzag(math.MinInt64) != math.MaxUint64 {
		t.Error("P1.1: examples")
	}
}

func TestUnzigzag(t *testing.T) {
	for _, n := range edges() {
		u := uint64(n)
		if Zigzag(Unzigzag(u)) != u {
			t.Errorf("P1.1: Zigzag(Unzigzag(%d)) = %d", u, Zigzag(Unzigzag(u)))
		}
	}
}

func TestUvarintRoundTrip(t *testing.T) {
	for _, n := range edges() {
		u := uint64(n)
		b := AppendUvarint([]byte("ab"), u)
		if !bytes.Equal(b, binary.AppendUvarint([]byte("ab"), u)) {
			t.Errorf("P1.2: AppendUvarint of %d is %x", u, b)
		}
		v, next, err := Uvarint(append(b, 0xff, 0), 2)
		if v != u || next != len(b) || err != api.OK {
			t.Errorf("P1.2: Uvarint of %d is %d, %d, %d", u, v, next, err)
		}
		for cut := 2; cut < len(b); cut++ {
			if v, next, err := Uvarint(b[:cut], 2); v != 0 || next != 0 || err != api.ErrTruncated {
				t.Errorf("P1.2: %d cut at %d: %d, %d, %d", u, cut, v, next, err)
			}
		}
	}
}

func TestUvarintShortest(t *testing.T) {
	last := 0
	for shift := range 64 {
		length := len(AppendUvarint(nil, 1<<shift))
		if length != shift/7+1 || length < last {
			t.Errorf("P1.2: 2^%d has %d bytes", shift, length)
		}
		last = length
	}
	if !bytes.Equal(AppendUvarint(nil, 0), []byte{0}) {
		t.Error("P1.2: 0")
	}
}

func TestUvarintErrors(t *testing.T) {
	nines := bytes.Repeat([]byte{0xff}, 9)
	zeros := bytes.Repeat([]byte{0x80}, 9)
	for i, c := range []struct {
		b    []byte
		at   int
		u    uint64
		next int
		err  api.Errno
	}{
		{[]byte{0xac, 0x02, 0x7f}, 0, 300, 2, api.OK},
		{[]byte{0xac, 0x02, 0x7f}, 2, 127, 3, api.OK},
		{nil, 0, 0, 0, api.ErrTruncated},
		{nil, 1, 0, 0, api.ErrInvalid},
		{nil, -1, 0, 0, api.ErrInvalid},
		{[]byte{0}, 1, 0, 0, api.ErrTruncated},
		{[]byte{0}, 2, 0, 0, api.ErrInvalid},
		{[]byte{0x80, 0}, -1, 0, 0, api.ErrInvalid},
		{[]byte{1}, math.MinInt, 0, 0, api.ErrInvalid},
		{[]byte{1}, math.MaxInt, 0, 0, api.ErrInvalid},
		{[]byte{0}, 0, 0, 1, api.OK},
		{[]byte{0, 0}, 1, 0, 2, api.OK},
		{[]byte{0x80}, 0, 0, 0, api.ErrTruncated},
		{[]byte{0x80, 0}, 0, 0, 0, api.ErrMalformed},
		{[]byte{0x80, 0x80, 0}, 0, 0, 0, api.ErrMalformed},
		{[]byte{0x80, 0x80, 1}, 0, 1 << 14, 3, api.OK},
		{nines, 0, 0, 0, api.ErrTruncated},
		{slices.Concat(nines, []byte{0}), 0, 0, 0, api.ErrMalformed},
		{slices.Concat(nines, []byte{1}), 0, math.MaxUint64, 10, api.OK},
		{slices.Concat(zeros, []byte{1}), 0, 1 << 63, 10, api.OK},
		{slices.Concat(nines, []byte{2}), 0, 0, 0, api.ErrMalformed},
		{slices.Concat(nines, []byte{0x80}), 0, 0, 0, api.ErrMalformed},
		{slices.Concat(zeros, []byte{0x81, 1}), 0, 0, 0, api.ErrMalformed},
		{slices.Concat(zeros, zeros), 9, 0, 0, api.ErrTruncated},
		{slices.Concat(zeros, zeros), 8, 0, 0, api.ErrMalformed},
	} {
		u, next, err := Uvarint(c.b, c.at)
		if u != c.u || next != c.next || err != c.err {
			t.Errorf("P1.2: row %d: %d, %d, %d", i, u, next, err)
		}
	}
}

// TestUvarintAgainstDefinition reads all strings of up to four of the bytes that matter, alone and at the end of the longest varints.
func TestUvarintAgainstDefinition(t *testing.T) {
	alphabet := []byte{0x00, 0x01, 0x02, 0x7f, 0x80, 0x81, 0xff}
	list := [][]byte{nil}
	for from := range 1 + 7 + 49 + 343 {
		for _, c := range alphabet {
			list = append(list, slices.Concat(list[from], []byte{c}))
		}
	}
	for _, s := range list {
		for at := -1; at <= len(s)+1; at++ {
			checkUvarint(t, s, at)
		}
		for length := 5; length <= 10; length++ {
			checkUvarint(t, slices.Concat(bytes.Repeat([]byte{0x80}, length), s), 0)
			checkUvarint(t, slices.Concat(bytes.Repeat([]byte{0xff}, length), s), 0)
		}
	}
}

func TestKey(t *testing.T) {
	var last []byte
	for i, k := range edges() {
		b := AppendKey([]byte("ab"), k)
		if want := binary.BigEndian.AppendUint64([]byte("ab"), uint64(k)^1<<63); !bytes.Equal(b, want) {
			t.Errorf("P1.3: AppendKey of %d is %x, want %x", k, b, want)
		}
		if i > 0 && bytes.Compare(last, b) >= 0 {
			t.Errorf("P1.3: order at %d", k)
		}
		if v, next, err := Key(append(b, 7), 2); v != k || next != 10 || err != api.OK {
			t.Errorf("P1.3: Key of %d is %d, %d, %d", k, v, next, err)
		}
		last = b
	}
	if want := []byte{0x7f, 255, 255, 255, 255, 255, 255, 255}; !bytes.Equal(AppendKey(nil, -1), want) {
		t.Error("P1.3: -1")
	}
}

func TestKeyErrors(t *testing.T) {
	for i, c := range []struct {
		length, at int
		err        api.Errno
	}{
		{0, 0, api.ErrTruncated}, {0, -1, api.ErrInvalid}, {0, 1, api.ErrInvalid},
		{7, 0, api.ErrTruncated}, {7, 7, api.ErrTruncated}, {7, 8, api.ErrInvalid}, {7, -1, api.ErrInvalid},
		{8, 0, api.OK}, {8, 1, api.ErrTruncated}, {8, 8, api.ErrTruncated}, {8, 9, api.ErrInvalid},
		{8, math.MaxInt, api.ErrInvalid}, {8, math.MinInt, api.ErrInvalid},
		{20, 12, api.OK}, {20, 13, api.ErrTruncated}, {20, 20, api.ErrTruncated}, {20, 21, api.ErrInvalid},
	} {
		k, next, err := Key(make([]byte, c.length), c.at)
		if err != c.err {
			t.Errorf("P1.3: row %d: error %d, want %d", i, err, c.err)
		}
		if err == api.OK && (k != math.MinInt64 || next != c.at+8) || err != api.OK && (k != 0 || next != 0) {
			t.Errorf("P1.3: row %d: %d, %d", i, k, next)
		}
	}
}

func TestPack(t *testing.T) {
	numbers := []uint32{0, 1, 2, 255, 1 << 16, 1<<31 - 1, 1 << 31, math.MaxUint32}
	for _, index := range numbers {
		for _, generation := range numbers {
			h := Pack(index, generation)
			if h != uint64(generation)*(1<<32)+uint64(index) {
				t.Errorf("P1.4: Pack(%d, %d) = %d", index, generation, h)
			}
			if i, g := Unpack(h); i != index || g != generation {
				t.Errorf("P1.4: Unpack(%d) = %d, %d", h, i, g)
			}
		}
	}
}

func TestLog2(t *testing.T) {
	if Log2(0) != -1 {
		t.Errorf("P1.5: Log2(0) = %d", Log2(0))
	}
	for _, n := range edges() {
		u := uint64(n)
		if Log2(u) != bits.Len64(u)-1 {
			t.Errorf("P1.5: Log2(%d) = %d", u, Log2(u))
		}
	}
}

// TestNewMemory holds the rule that results share no memory with arguments and that arguments are not changed, whatever room the argument has left.
func TestNewMemory(t *testing.T) {
	functions := map[string]func(b []byte, n int) []byte{
		"AppendUvarint": func(b []byte, n int) []byte { return AppendUvarint(b, uint64(n)) },
		"AppendKey":     func(b []byte, n int) []byte { return AppendKey(b, int64(n)) },
	}
	for name, f := range functions {
		whole := bytes.Repeat([]byte{9}, 64)
		b := whole[:3]
		first := f(b, 1)
		before := slices.Clone(first)
		second := f(b, 2)
		if !bytes.Equal(first, before) || bytes.Equal(first, second) {
			t.Errorf("%s: two results share memory", name)
		}
		first[0] = 7
		if !bytes.Equal(whole, bytes.Repeat([]byte{9}, 64)) {
			t.Errorf("%s: the argument has changed", name)
		}
		if !bytes.Equal(f(nil, 5), f([]byte{}, 5)) {
			t.Errorf("%s: nil and empty differ", name)
		}
	}
}

func TestReadersKeepArguments(t *testing.T) {
	b := []byte{0xac, 0x02, 3, 4, 5, 6, 7, 8, 9}
	before := slices.Clone(b)
	Uvarint(b, 0)
	Key(b, 0)
	if !bytes.Equal(b, before) {
		t.Error("an argument has changed")
	}
}
