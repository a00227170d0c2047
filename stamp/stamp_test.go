package stamp

import (
	"crypto/sha256"
	"encoding/hex"
	"strings"
	"testing"

	"interleaf/api"
)

// some is so many bytes, the same ones each time.
func some(n int) []byte {
	p := make([]byte, n)
	x := uint32(n + 1)
	for i := range p {
		x = x*1664525 + 1013904223
		p[i] = byte(x >> 24)
	}
	return p
}

func TestOfKnown(t *testing.T) { // P2.1
	for s, want := range map[string]string{
		"":    "e3b0c44298fc1c149afbf4c8996fb92427ae41e4649b934ca495991b7852b855",
		"abc": "ba7816bf8f01cfea414140de5dae2223b00361a396177a9cb410ff61f20015ad",
		"abcdbcdecdefdefgefghfghighijhijkijkljklmklmnlmnomnopnopq": "248d6a61d20638b8e5c026930c3e6039a33ce45964ff2167f6ecedd419db06c1",
		strings.Repeat("a", 1000000):                               "cdc76e5c9914fb9281a1c7e284d73e67f1809a48a497200e046d39ccc7112cd0",
	} {
		if got := Text(Of([]byte(s))); got != want {
			t.Errorf("%.20q: %s", s, got)
		}
	}
	if Of(nil) != Of([]byte{}) {
		t.Error("nil and empty")
	}
}

// All that a block's end may cut: 55, 56, 63, 64 bytes and so on are within.
func TestOfEachLength(t *testing.T) { // P2.1
	for n := range 300 {
		if p := some(n); Of(p) != api.Key(sha256.Sum256(p)) {
			t.Errorf("%d bytes", n)
		}
	}
	for _, n := range []int{899, 900, 4095, 4096, 65536 + 55, 65536 + 56} {
		if p := some(n); Of(p) != api.Key(sha256.Sum256(p)) {
			t.Errorf("%d bytes", n)
		}
	}
}

func TestOfChangesNothing(t *testing.T) { // P2, and the rule on memory
	for _, n := range []int{0, 3, 55, 56, 64, 130} {
		p := some(n + 100)
		first := Of(p[:n])
		if string(p) != string(some(n+100)) {
			t.Errorf("%d bytes: what was handed in, or what is behind it, has changed", n)
		}
		if Of(p[:n:n]) != first {
			t.Errorf("%d bytes: another key the second time", n)
		}
	}
}

func TestTextAndRead(t *testing.T) { // P2.1
	keys := []api.Key{{}, {0: 1}, {31: 1}, {0: 0xf0, 31: 0x0f}, Of(nil), Of([]byte("abc"))}
	all := api.Key{}
	for i := range all {
		all[i] = 255
	}
	for b := range 256 {
		k := api.Key{}
		k[b%32] = byte(b)
		keys = append(keys, k)
	}
	for _, k := range append(keys, all) {
		s := Text(k)
		if s != hex.EncodeToString(k[:]) {
			t.Errorf("%x: %s", k, s)
		}
		if got, ok := Read(s); !ok || got != k {
			t.Errorf("%s: %x, %t", s, got, ok)
		}
	}
}

func TestReadOfNone(t *testing.T) { // P2.1, P1
	right := Text(Of([]byte("abc")))
	wrong := []string{
		"", "b", "ba", right[:62], right[:63], right + "0", right + "00", right + right,
		strings.ToUpper(right), "B" + right[1:], right[:63] + "D", right[:63] + "g",
		" " + right[1:], "0x" + right[2:], "-1" + right[2:], right[:63] + "\n", right[:62] + "\xc3\xa9", strings.Repeat("\x00", 64),
	}
	for _, s := range wrong {
		if k, ok := Read(s); ok || k != (api.Key{}) {
			t.Errorf("%q: %x, %t", s, k, ok)
		}
	}
	for b := range 256 {
		digit := b >= '0' && b <= '9' || b >= 'a' && b <= 'f'
		for _, at := range []int{0, 1, 31, 62, 63} {
			p := []byte(right)
			p[at] = byte(b)
			k, ok := Read(string(p))
			if ok != digit || ok && Text(k) != string(p) || !ok && k != (api.Key{}) {
				t.Errorf("%q: %x, %t", p, k, ok)
			}
		}
	}
}

func TestLess(t *testing.T) { // P2.1
	rising := []api.Key{{}, {31: 1}, {31: 128}, {31: 255}, {30: 1}, {1: 1}, {0: 1}, {0: 1, 31: 1}, {0: 1, 1: 9}, {0: 2}, {0: 127, 1: 255}, {0: 128}, {0: 255}, {0: 255, 31: 1}}
	for i, a := range rising {
		for j, b := range rising {
			if Less(a, b) != (i < j) {
				t.Errorf("%x, %x: %t", a, b, Less(a, b))
			}
		}
	}
}
