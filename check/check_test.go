package check

import (
	"bytes"
	"hash/crc32"
	"math"
	"testing"

	"interleaf/api"
)

// some is so many bytes, the same ones each time, none of them 0.
func some(n int) []byte {
	p := make([]byte, n)
	x := uint32(n + 1)
	for i := range p {
		x = x*1664525 + 1013904223
		p[i] = byte(x>>24) | 1
	}
	return p
}

func TestOfKnown(t *testing.T) { // P3.1
	for s, want := range map[string]uint32{
		"":                                    0,
		"a":                                   0xc1d04330,
		"123456789":                           0xe3069283,
		string(make([]byte, 32)):              0x8a9136aa,
		string(bytes.Repeat([]byte{255}, 32)): 0x62a8ab43,
	} {
		if got := Of([]byte(s)); got != want {
			t.Errorf("%q: %x, not %x", s, got, want)
		}
	}
	if Of(nil) != 0 {
		t.Error("nil")
	}
}

func TestOfEachByteAndLength(t *testing.T) { // P3.1
	table := crc32.MakeTable(crc32.Castagnoli)
	for b := range 256 {
		if p := []byte{byte(b)}; Of(p) != crc32.Checksum(p, table) {
			t.Errorf("%x: %x", p, Of(p))
		}
	}
	for n := range 300 {
		p := some(n)
		if Of(p) != crc32.Checksum(p, table) {
			t.Errorf("%d bytes: %x", n, Of(p))
		}
		if !bytes.Equal(p, some(n)) {
			t.Errorf("%d bytes: handed in, and changed", n)
		}
	}
}

func TestSealLaysOut(t *testing.T) { // P3.1
	table := crc32.MakeTable(crc32.Castagnoli)
	for _, n := range []int{0, 1, 30, 58, 59, 60, 61, 62, 63, 64, 65, 200} {
		p := some(n)
		want := append(bytes.Clone(p), make([]byte, 60)...)[:60]
		sum := crc32.Checksum(want, table)
		want = append(want, byte(sum), byte(sum>>8), byte(sum>>16), byte(sum>>24))
		got := Seal(p)
		if len(got) != api.Sector || !bytes.Equal(got, want) {
			t.Errorf("%d bytes: %x, not %x", n, got, want)
		}
		if !bytes.Equal(p, some(n)) {
			t.Errorf("%d bytes: handed in, and changed", n)
		}
	}
	if Room != 60 || !bytes.Equal(Seal(nil), Seal([]byte{})) {
		t.Error("nil and empty")
	}
}

func TestSealKeepsAndChangesNothingBehind(t *testing.T) { // P2, and the rule on memory
	p := some(100)
	s := Seal(p[:10])
	if !bytes.Equal(p, some(100)) {
		t.Error("what is behind was changed")
	}
	p[0]++
	if !bytes.Equal(s, Seal(some(100)[:10])) {
		t.Error("what was handed in is kept")
	}
}

func TestOpenIsTheWayBack(t *testing.T) { // P3.1
	for _, n := range []int{0, 1, 59, 60, 61, 64} {
		s := Seal(some(n))
		before := bytes.Clone(s)
		p, ok := Open(s)
		want := append(some(n), make([]byte, 60)...)[:60]
		if !ok || !bytes.Equal(p, want) {
			t.Errorf("%d bytes: %x, %v", n, p, ok)
		}
		for i := range p {
			p[i]++
		}
		_ = append(p, 1, 2, 3, 4)
		if !bytes.Equal(s, before) {
			t.Errorf("%d bytes: what is answered is of what was handed in", n)
		}
	}
}

func TestOpenRefuses(t *testing.T) { // P3.1
	s := Seal([]byte("hello"))
	for bit := range 8 * len(s) {
		s[bit/8] ^= 1 << (bit % 8)
		if p, ok := Open(s); ok || len(p) != 0 {
			t.Errorf("bit %d is another one, and it is opened: %x", bit, p)
		}
		s[bit/8] ^= 1 << (bit % 8)
	}
	for n := range s {
		if p, ok := Open(s[:n]); ok || len(p) != 0 {
			t.Errorf("%d bytes: %x", n, p)
		}
	}
	for _, more := range [][]byte{{0}, {1}, make([]byte, 64), s} {
		if p, ok := Open(append(bytes.Clone(s), more...)); ok || len(p) != 0 {
			t.Errorf("%d bytes more: %x", len(more), p)
		}
	}
	turned := bytes.Clone(s)
	turned[60], turned[61], turned[62], turned[63] = s[63], s[62], s[61], s[60]
	for _, wrong := range [][]byte{nil, {}, make([]byte, 64), bytes.Repeat([]byte{255}, 64), turned} {
		if p, ok := Open(wrong); ok || len(p) != 0 {
			t.Errorf("%x: %x", wrong, p)
		}
	}
}

func TestFour(t *testing.T) { // P3.1
	for _, c := range []struct {
		n    int
		want string
	}{
		{0, "\x00\x00\x00\x00"},
		{1, "\x01\x00\x00\x00"},
		{255, "\xff\x00\x00\x00"},
		{256, "\x00\x01\x00\x00"},
		{0x01020304, "\x04\x03\x02\x01"},
		{1<<31 - 1, "\xff\xff\xff\x7f"},
		{1 << 31, "\x00\x00\x00\x80"},
		{1<<32 - 1, "\xff\xff\xff\xff"},
		{1 << 32, "\x00\x00\x00\x00"},
		{1<<32 + 5, "\x05\x00\x00\x00"},
		{-1, "\xff\xff\xff\xff"},
		{-2, "\xfe\xff\xff\xff"},
		{math.MaxInt, "\xff\xff\xff\xff"},
		{math.MinInt, "\x00\x00\x00\x00"},
	} {
		if got := Four(c.n); string(got) != c.want {
			t.Errorf("Four(%d) = %x", c.n, got)
		}
	}
}

func TestNumber(t *testing.T) { // P3.1
	for s, want := range map[string]int{
		"":                         0,
		"\x05":                     5,
		"\x01\x02":                 513,
		"\x00\x00\x01":             65536,
		"\x04\x03\x02\x01":         0x01020304,
		"\x04\x03\x02\x01\xff\xff": 0x01020304,
		"\x00\x00\x00\x80":         1 << 31,
		"\xff\xff\xff\xff":         1<<32 - 1,
		"\xff\xff\xff\xff\xff":     1<<32 - 1,
	} {
		if got := Number([]byte(s)); got != want {
			t.Errorf("Number(%x) = %d, not %d", s, got, want)
		}
	}
	if Number(nil) != 0 {
		t.Error("nil")
	}
	for _, n := range []int{0, 1, 127, 128, 255, 256, 1 << 16, 1 << 24, 1<<31 - 1, 1 << 31, 1<<32 - 1} {
		if got := Number(Four(n)); got != n {
			t.Errorf("%d, there and back: %d", n, got)
		}
	}
}
