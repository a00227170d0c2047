package shelf

import (
	"bytes"
	"math/rand"
	"slices"
	"testing"

	"interleaf/api"
	"interleaf/check"
	"interleaf/disk"
	"interleaf/journal"
	"interleaf/stamp"
)

// device is a disk with so many sectors for objects' bytes.
func device(sectors int) *disk.Disk {
	return disk.New(journal.Size + Head + sectors)
}

func open(t *testing.T, d *disk.Disk) *Shelf {
	t.Helper()
	s, e := Open(logged(t, d))
	if e != api.OK || s == nil {
		t.Fatalf("Open: %d", e)
	}
	return s
}

func logged(t *testing.T, d *disk.Disk) *journal.Journal {
	t.Helper()
	j, e := journal.Open(d)
	if e != api.OK {
		t.Fatalf("journal.Open: %d", e)
	}
	return j
}

func wantErr(t *testing.T, what string, got, want api.Errno) {
	t.Helper()
	if got != want {
		t.Errorf("%s: %d, not %d", what, got, want)
	}
}

// some is so many bytes, others for another first one, none of them a nought.
func some(first, n int) []byte {
	p := make([]byte, n)
	for i := range p {
		p[i] = byte(1 + (first*37+i*11)%255)
	}
	p[0] = byte(1 + first%255)
	return p
}

func put(t *testing.T, s *Shelf, p []byte) api.Key {
	t.Helper()
	k, e := s.Put(p)
	if e != api.OK || k != stamp.Of(p) {
		t.Fatalf("Put of %d bytes: %d", len(p), e)
	}
	return k
}

func drop(t *testing.T, s *Shelf, p []byte) {
	t.Helper()
	wantErr(t, "Drop", s.Drop(stamp.Of(p)), api.OK)
}

// has holds all that a shelf tells against the objects that it should have, and how many sectors are left.
func has(t *testing.T, s *Shelf, sectors int, objects ...[]byte) {
	t.Helper()
	var keys []api.Key
	for _, p := range objects {
		k := stamp.Of(p)
		keys = append(keys, k)
		got, e := s.Get(k)
		if e != api.OK || !bytes.Equal(got, p) || !s.Has(k) {
			t.Errorf("Get of %d bytes: %d bytes, %d", len(p), len(got), e)
		}
		sectors -= (len(p) + 63) / 64
	}
	slices.SortFunc(keys, func(a, b api.Key) int { return bytes.Compare(a[:], b[:]) })
	if !slices.Equal(s.Keys(), keys) {
		t.Errorf("%d keys, not %d, or not rising", len(s.Keys()), len(keys))
	}
	if n, m := s.Left(); n != 48-len(objects) || m != sectors {
		t.Errorf("Left: %d, %d, not %d, %d", n, m, 48-len(objects), sectors)
	}
}

// behind is all sectors of a disk, but its journal's.
func behind(t *testing.T, d *disk.Disk) [][]byte {
	t.Helper()
	var l [][]byte
	for at := journal.Size; at < d.Sectors(); at++ {
		p, e := d.Read(at)
		if e != api.OK {
			t.Fatal(e)
		}
		l = append(l, p)
	}
	return l
}

// slot is a slot's bytes, by hand, ahead of the seal.
func slot(first byte, k api.Key, at, size int) []byte {
	return slices.Concat([]byte{first}, k[:], check.Four(at), check.Four(size))
}

// stored is where the slots of a disk tell that objects begin: 0 of those that are free.
func stored(t *testing.T, d *disk.Disk) []int {
	t.Helper()
	var l []int
	for _, p := range behind(t, d)[:Slots] {
		l = append(l, check.Number(p[33:]))
	}
	for len(l) > 0 && l[len(l)-1] == 0 {
		l = l[:len(l)-1]
	}
	return l
}

func wantStored(t *testing.T, d *disk.Disk, want ...int) {
	t.Helper()
	if got := stored(t, d); !slices.Equal(got, want) {
		t.Errorf("objects are at %v, not %v", got, want)
	}
}

func TestExample(t *testing.T) { // P7.2: the chapter's example
	d := device(5)
	s := open(t, d)
	a, b := put(t, s, []byte("a")), put(t, s, []byte("a"))
	if a != b {
		t.Error("two keys")
	}
	has(t, s, 5, []byte("a"))
	wantStored(t, d, 60)
}

func TestOpenAsksForMoreThanHead(t *testing.T) { // P7.1
	if Slots != 48 || Labels != 12 || Head != 60 {
		t.Error(Slots, Labels, Head)
	}
	for _, n := range []int{-59, -58, -1, 0} {
		d := device(n)
		j := logged(t, d)
		d.Write(journal.Size, []byte("no slot"))
		for range 2 {
			s, e := Open(j)
			wantErr(t, "too small", e, api.ErrArg)
			if s != nil {
				t.Error("beside an error, a shelf")
			}
			d.Arm(0)
			d.Flush() // one that has stopped is too small all the same
		}
	}
	for _, j := range []*journal.Journal{nil, {}} {
		s, e := Open(j)
		wantErr(t, "no journal", e, api.ErrArg)
		if s != nil {
			t.Error("of no journal, a shelf")
		}
	}
	for _, n := range []int{1, 2, 100, api.MaxDisk - 109} {
		d := device(n)
		has(t, open(t, d), n)
		if d.Acts() != 0 {
			t.Error("Open writes")
		}
	}
}

func TestOpenOfAStoppedDisk(t *testing.T) { // P7.1
	d := device(3)
	j := logged(t, d)
	d.Arm(0)
	d.Flush()
	s, e := Open(j)
	wantErr(t, "stopped", e, api.ErrOff)
	if s != nil {
		t.Error("beside an error, a shelf")
	}
}

func TestOpenTakesWhatSlotsTell(t *testing.T) { // P7.1
	d := device(40)
	a, b, c := some(1, 900), some(2, 65), some(3, 1)
	laid := []struct {
		slot, at int
		p        []byte
	}{{0, 85, a}, {47, 60, b}, {20, 84, c}}
	for _, o := range laid {
		d.Write(49+o.slot, check.Seal(slot(1, stamp.Of(o.p), o.at, len(o.p))))
		for i := 0; 64*i < len(o.p); i++ {
			d.Write(49+o.at+i, o.p[64*i:min(64*i+64, len(o.p))])
		}
	}
	for at := Slots; at < Head; at++ { // they are no slots
		d.Write(49+at, []byte("a label"))
	}
	has(t, open(t, d), 40, a, b, c)
}

func TestOpenRefuses(t *testing.T) { // P7.1
	k, other := api.Key{1, 2}, api.Key{3}
	good := slot(1, k, 62, 129) // three sectors
	long := append(slot(1, other, 65, 1), make([]byte, 19)...)
	long[59] = 1
	after := append(slot(1, other, 65, 1), 1)
	unsealed := append(slot(1, other, 65, 1), make([]byte, 23)...)
	spoilt := check.Seal(slot(1, other, 65, 1))
	spoilt[5]++
	sum := check.Seal(slot(1, other, 65, 1))
	sum[63] ^= 128
	bad := map[string][]byte{
		"not sealed":            unsealed,
		"spoilt":                spoilt,
		"another sum":           sum,
		"a nought too few":      append(make([]byte, 63), 1),
		"sealed noughts":        check.Seal(nil),
		"first 0":               check.Seal(slot(0, other, 65, 1)),
		"first 2":               check.Seal(slot(2, other, 65, 1)),
		"something behind":      check.Seal(after),
		"something at the end":  check.Seal(long),
		"no bytes":              check.Seal(slot(1, other, 65, 0)),
		"901 bytes":             check.Seal(slot(1, other, 65, 901)),
		"as many as there go":   check.Seal(slot(1, other, 65, -1)),
		"ahead of Head":         check.Seal(slot(1, other, 59, 1)),
		"at a label":            check.Seal(slot(1, other, 48, 1)),
		"at a slot":             check.Seal(slot(1, other, 5, 1)),
		"at 0":                  check.Seal(slot(1, other, 0, 1)),
		"behind the last":       check.Seal(slot(1, other, 80, 1)),
		"its second behind it":  check.Seal(slot(1, other, 79, 65)),
		"far behind":            check.Seal(slot(1, other, 1<<31, 1)),
		"as far as there goes":  check.Seal(slot(1, other, -1, 1)),
		"another one's":         check.Seal(slot(1, other, 62, 129)),
		"another one's first":   check.Seal(slot(1, other, 61, 65)),
		"another one's second":  check.Seal(slot(1, other, 63, 1)),
		"another one's last":    check.Seal(slot(1, other, 64, 400)),
		"around another one's":  check.Seal(slot(1, other, 60, 900)),
		"another one's key":     check.Seal(slot(1, k, 70, 5)),
		"another one's, at all": check.Seal(good),
	}
	for name, p := range bad {
		for _, at := range []int{0, 1, 8, 47} {
			d := device(20)
			if at != 8 {
				d.Write(49+8, check.Seal(good))
			} else {
				d.Write(49+9, check.Seal(good))
			}
			j := logged(t, d)
			_, e := Open(j)
			wantErr(t, name+", ahead of it", e, api.OK)
			d.Write(49+at, p)
			s, e := Open(j)
			wantErr(t, name, e, api.ErrForm)
			if s != nil {
				t.Error("beside an error, a shelf")
			}
		}
	}
}

func TestOpenTakesTheEdges(t *testing.T) { // P7.1
	for name, p := range map[string][]byte{
		"at Head":             slot(1, api.Key{9}, 60, 64),
		"up to the next":      slot(1, api.Key{9}, 60, 128),
		"behind another":      slot(1, api.Key{9}, 65, 65),
		"900 bytes":           slot(1, api.Key{9}, 65, 900),
		"the last sector":     slot(1, api.Key{9}, 79, 64),
		"a key of noughts":    slot(1, api.Key{}, 70, 5),
		"nearly the same key": slot(1, api.Key{1, 2, 31: 1}, 70, 5),
	} {
		d := device(20)
		d.Write(49+8, check.Seal(slot(1, api.Key{1, 2}, 62, 129)))
		d.Write(49+4, check.Seal(p))
		s := open(t, d)
		if len(s.Keys()) != 2 || !s.Has(api.Key(p[1:33])) {
			t.Error(name)
		}
	}
}

func TestPutLaysOut(t *testing.T) { // P7.1, P7.2
	for _, n := range []int{1, 2, 63, 64, 65, 127, 128, 129, 200, 899, 900} {
		d := device(20)
		for at := 49 + Slots; at < d.Sectors(); at++ { // what was there before
			d.Write(at, bytes.Repeat([]byte{0xee}, 64))
		}
		d.Flush()
		s, acts, model := open(t, d), d.Acts(), behind(t, d)
		p := some(n, n)
		put(t, s, p)
		sectors := (n + 63) / 64
		for i := range sectors {
			model[60+i] = make([]byte, 64)
			copy(model[60+i], p[64*i:])
		}
		model[0] = check.Seal(slot(1, stamp.Of(p), 60, n))
		if !slices.EqualFunc(behind(t, d), model, bytes.Equal) {
			t.Errorf("%d bytes are laid out otherwise", n)
		}
		if d.Acts()-acts != 3*(sectors+1)+3 || d.Wet() != 0 {
			t.Errorf("%d bytes: %d acts", n, d.Acts()-acts)
		}
		if l, e := d.Read(1 + 2*sectors); e != api.OK || check.Number(l[4:]) != 0 {
			t.Errorf("%d bytes: the slot isn't the last page", n)
		}
		has(t, s, 20, p)
		has(t, open(t, d), 20, p)
	}
}

func TestPutOfWhatIsThere(t *testing.T) { // P7.2
	d := device(3)
	s := open(t, d)
	a, b := some(1, 100), some(2, 5)
	put(t, s, a)
	put(t, s, b)
	for range 2 {
		acts := d.Acts()
		put(t, s, a)
		if d.Acts() != acts {
			t.Error("it is written again")
		}
		s = open(t, d)
	}
	d.Write(49+60, []byte("spoilt")) // it is there all the same
	acts := d.Acts()
	put(t, s, a)
	if d.Acts() != acts {
		t.Error("it is written again")
	}
	if _, e := s.Get(stamp.Of(a)); e != api.ErrSum {
		t.Error(e)
	}
}

func TestPutRefuses(t *testing.T) { // P7.2
	d := device(16)
	s := open(t, d)
	put(t, s, some(1, 65))
	acts := d.Acts()
	for _, c := range []struct {
		p    []byte
		want api.Errno
	}{
		{nil, api.ErrArg}, {[]byte{}, api.ErrArg}, {some(2, 901), api.ErrLong}, {some(2, 5000), api.ErrLong},
		{some(2, 897), api.ErrFull}, {some(2, 900), api.ErrFull},
	} {
		k, e := s.Put(c.p)
		wantErr(t, "Put", e, c.want)
		if k != (api.Key{}) {
			t.Error("beside an error, a key")
		}
	}
	if d.Acts() != acts {
		t.Error("something was written")
	}
	has(t, s, 16, some(1, 65))
	put(t, s, some(2, 896))
	_, e := s.Put([]byte("x"))
	wantErr(t, "no place", e, api.ErrFull)
	_, e = s.Put(nil)
	wantErr(t, "no bytes, no place", e, api.ErrArg)
	_, e = s.Put(some(3, 901))
	wantErr(t, "too long, no place", e, api.ErrLong)
	has(t, s, 16, some(1, 65), some(2, 896))
}

func TestPutUpToSlots(t *testing.T) { // P7.2
	d := device(60)
	s := open(t, d)
	var l [][]byte
	for i := range 48 {
		l = append(l, some(i, 1+i))
		put(t, s, l[i])
	}
	has(t, s, 60, l...)
	_, e := s.Put([]byte("no slot"))
	wantErr(t, "no slot", e, api.ErrFull)
	put(t, s, l[17]) // it is there
	_, e = s.Put(nil)
	wantErr(t, "no bytes, no slot", e, api.ErrArg)
	drop(t, s, l[30])
	drop(t, s, l[20])
	put(t, s, some(50, 70))
	if got := stored(t, d); got[20] != 108 || got[30] != 0 {
		t.Errorf("not the least slot, or not the least place: %v", got)
	}
	put(t, s, some(51, 3))
	if got := stored(t, d); got[30] != 80 {
		t.Errorf("not the least place: %v", got)
	}
	_, e = s.Put([]byte("no slot"))
	wantErr(t, "no slot", e, api.ErrFull)
	_, e = open(t, d).Put([]byte("no slot"))
	wantErr(t, "no slot, opened", e, api.ErrFull)
}

func TestPutTakesTheLeastPlace(t *testing.T) { // P7.2
	d := device(10)
	s := open(t, d)
	a, b, c, e := some(1, 64), some(2, 65), some(3, 129), some(4, 128)
	for _, p := range [][]byte{a, b, c, e} {
		put(t, s, p)
	}
	wantStored(t, d, 60, 61, 63, 66)
	drop(t, s, b)
	drop(t, s, e)
	put(t, s, some(5, 130)) // 61 and 62 are too few
	wantStored(t, d, 60, 66, 63)
	put(t, s, some(6, 20))
	wantStored(t, d, 60, 66, 63, 61)
	_, f := s.Put(some(7, 65)) // 62 and 69 are free, but not in a row
	wantErr(t, "not in a row", f, api.ErrFull)
	s = open(t, d)
	_, f = s.Put(some(7, 65))
	wantErr(t, "not in a row", f, api.ErrFull)
	put(t, s, some(8, 64))
	put(t, s, some(9, 1))
	wantStored(t, d, 60, 66, 63, 61, 62, 69)
	has(t, s, 10, a, c, some(5, 130), some(6, 20), some(8, 64), some(9, 1))
}

func TestGet(t *testing.T) { // P7.2
	d := device(10)
	s := open(t, d)
	p := some(1, 130)
	k := put(t, s, p)
	for _, other := range []api.Key{{}, {31: 1}, stamp.Of(nil), stamp.Of(p[:129])} {
		got, e := s.Get(other)
		wantErr(t, "Get", e, api.ErrNone)
		if len(got) != 0 || s.Has(other) {
			t.Error("beside an error, bytes")
		}
	}
	for i := range p {
		at := 49 + 60 + i/64
		was, _ := d.Read(at)
		spoilt := bytes.Clone(was)
		spoilt[i%64] ^= 1
		d.Write(at, spoilt)
		got, e := s.Get(k)
		wantErr(t, "spoilt", e, api.ErrSum)
		if len(got) != 0 || !s.Has(k) {
			t.Error("beside an error, bytes")
		}
		d.Write(at, was)
	}
	has(t, s, 10, p)
	last, _ := d.Read(49 + 62)
	last[2], last[63] = 1, 1 // they aren't its bytes
	d.Write(49+62, last)
	has(t, s, 10, p)
	d.Arm(0)
	d.Flush()
	_, e := s.Get(k)
	wantErr(t, "stopped", e, api.ErrOff)
	_, e = s.Get(api.Key{})
	wantErr(t, "none, stopped", e, api.ErrNone)
}

func TestKeysRise(t *testing.T) { // P7.2: whatever the order was in which they came
	r := rand.New(rand.NewSource(1))
	for range 20 {
		s := open(t, device(60))
		var l [][]byte
		for _, i := range r.Perm(48)[:1+r.Intn(48)] {
			l = append(l, some(i, 10))
			put(t, s, l[len(l)-1])
		}
		has(t, s, 60, l...)
	}
	for _, pair := range [][2]byte{{1, 2}, {0x7f, 0x80}, {0, 255}} { // a byte has no sign
		d := device(3)
		d.Write(49, check.Seal(slot(1, api.Key{5, pair[1]}, 60, 1)))
		d.Write(50, check.Seal(slot(1, api.Key{5, pair[0], 255}, 61, 1)))
		if l := open(t, d).Keys(); l[0][1] != pair[0] || l[1][1] != pair[1] {
			t.Error(pair)
		}
	}
}

func TestDrop(t *testing.T) { // P7.2
	d := device(10)
	s := open(t, d)
	a, b, c := some(1, 64), some(2, 200), some(3, 1)
	for _, p := range [][]byte{a, b, c} {
		put(t, s, p)
	}
	acts, model := d.Acts(), behind(t, d)
	wantErr(t, "none", s.Drop(stamp.Of(nil)), api.ErrNone)
	wantErr(t, "none", s.Drop(api.Key{}), api.ErrNone)
	if d.Acts() != acts {
		t.Error("something was written")
	}
	drop(t, s, b)
	model[1] = make([]byte, 64)
	if !slices.EqualFunc(behind(t, d), model, bytes.Equal) || d.Acts() != acts+6 || d.Wet() != 0 {
		t.Errorf("not just the slot, in %d acts", d.Acts()-acts)
	}
	wantErr(t, "again", s.Drop(stamp.Of(b)), api.ErrNone)
	if _, e := s.Get(stamp.Of(b)); e != api.ErrNone || s.Has(stamp.Of(b)) {
		t.Error("dropped, and there", e)
	}
	has(t, s, 10, a, c)
	has(t, open(t, d), 10, a, c)
	put(t, s, b) // and back
	if !slices.Equal(stored(t, d), []int{60, 61, 65}) {
		t.Error(stored(t, d))
	}
	has(t, s, 10, a, b, c)
}

func settle(t *testing.T, s *Shelf, want bool) {
	t.Helper()
	if got, e := s.Settle(); got != want || e != api.OK {
		t.Errorf("Settle: %v, %d", got, e)
	}
}

func TestSettle(t *testing.T) { // P7.3
	d := device(12)
	s := open(t, d)
	settle(t, s, false)
	a, b, c, e := some(1, 65), some(2, 10), some(3, 192), some(4, 66)
	for _, p := range [][]byte{a, b, c, e} {
		put(t, s, p)
	}
	wantStored(t, d, 60, 62, 63, 66)
	acts := d.Acts()
	settle(t, s, false)
	if d.Acts() != acts {
		t.Error("something was written")
	}
	drop(t, s, a)
	acts = d.Acts()
	settle(t, s, true) // b goes into 60, of the slots the first
	if d.Acts() != acts+3*2+3 || d.Wet() != 0 {
		t.Errorf("%d acts", d.Acts()-acts)
	}
	wantStored(t, d, 0, 60, 63, 66)
	has(t, s, 12, b, c, e)
	settle(t, s, true) // c has too few ahead of it, as its own sectors aren't free; e goes
	wantStored(t, d, 0, 60, 63, 61)
	settle(t, s, false)
	has(t, s, 12, b, c, e)
	has(t, open(t, d), 12, b, c, e)
	settle(t, open(t, d), false)
}

func TestSettleGoesBySlots(t *testing.T) { // P7.3: not by places
	d := device(8)
	s := open(t, d)
	a, b, c, e := some(1, 1), some(2, 1), some(3, 1), some(4, 1)
	for _, p := range [][]byte{a, b, c} {
		put(t, s, p)
	}
	drop(t, s, a)
	put(t, s, some(5, 65)) // slot 0, at 63
	wantStored(t, d, 63, 61, 62)
	put(t, s, e) // slot 3, at 60
	drop(t, s, b)
	drop(t, s, e)
	wantStored(t, d, 63, 0, 62)
	settle(t, s, true) // the object of slot 0, though the one of slot 2 stands ahead of it
	wantStored(t, d, 60, 0, 62)
	has(t, s, 8, some(5, 65), c)
	settle(t, s, false)
	drop(t, s, some(5, 65))
	settle(t, s, true)
	wantStored(t, d, 0, 0, 60)
	has(t, s, 8, c)
}

func TestSettleTakesTheLeastPlace(t *testing.T) { // P7.3
	d := device(12)
	s := open(t, d)
	var l [][]byte
	for i, n := range []int{1, 1, 1, 128, 1, 128} {
		l = append(l, some(i, n))
		put(t, s, l[i])
	}
	wantStored(t, d, 60, 61, 62, 63, 65, 66)
	drop(t, s, l[1])
	drop(t, s, l[3])
	settle(t, s, true) // 62 into 61, of 61, 63 and 64; not into one behind it
	wantStored(t, d, 60, 0, 61, 0, 65, 66)
	settle(t, s, true)
	wantStored(t, d, 60, 0, 61, 0, 62, 66)
	settle(t, s, true)
	wantStored(t, d, 60, 0, 61, 0, 62, 63)
	settle(t, s, false)
	has(t, s, 12, l[0], l[2], l[4], l[5])
	put(t, s, some(9, 448)) // what it left is free
	wantStored(t, d, 60, 65, 61, 0, 62, 63)
}

func TestSettleMovesWhatIsSpoilt(t *testing.T) { // P7.3: the disk's errors alone
	d := device(8)
	s := open(t, d)
	a, b := some(1, 64), some(2, 10)
	put(t, s, a)
	k := put(t, s, b)
	drop(t, s, a)
	d.Write(49+61, []byte("spoilt"))
	settle(t, s, true)
	wantStored(t, d, 0, 60)
	_, e := s.Get(k)
	wantErr(t, "spoilt, and moved", e, api.ErrSum)
	if p, _ := d.Read(49 + 60); !bytes.HasPrefix(p, []byte("spoilt\x00")) {
		t.Errorf("%q", p)
	}
}

func TestNilShelf(t *testing.T) { // P1, P7.3
	var s *Shelf
	for _, p := range [][]byte{nil, {}, []byte("a"), make([]byte, 901)} {
		k, e := s.Put(p)
		wantErr(t, "Put", e, api.ErrNone)
		if k != (api.Key{}) {
			t.Error("a key")
		}
	}
	p, e := s.Get(api.Key{})
	wantErr(t, "Get", e, api.ErrNone)
	wantErr(t, "Drop", s.Drop(api.Key{}), api.ErrNone)
	done, e := s.Settle()
	wantErr(t, "Settle", e, api.ErrNone)
	n, m := s.Left()
	if len(p) != 0 || done || n != 0 || m != 0 || s.Has(api.Key{}) || len(s.Keys()) != 0 {
		t.Error("something of nothing")
	}
	s = &Shelf{} // nothing is promised of it, but that its calls end
	s.Put([]byte("a"))
	s.Get(api.Key{})
	s.Has(api.Key{})
	s.Keys()
	s.Left()
	s.Drop(api.Key{})
	s.Settle()
}

func TestStoppedShelf(t *testing.T) { // P7.2, P7.3: the disk's errors; its calls end
	for stop := range 6 {
		d := device(8)
		s := open(t, d)
		a, b := some(1, 1), some(2, 1)
		put(t, s, a)
		put(t, s, b)
		d.Arm(stop)
		k, e := s.Put(some(3, 1))
		wantErr(t, "Put", e, api.ErrOff)
		if k != (api.Key{}) {
			t.Error("beside an error, a key")
		}
		wantErr(t, "Drop", s.Drop(stamp.Of(a)), api.ErrOff)
		d.Crash(nil)
		s = open(t, d)
		drop(t, s, a)
		d.Arm(stop)
		done, e := s.Settle()
		wantErr(t, "Settle", e, api.ErrOff)
		if done {
			t.Error("beside an error, true")
		}
		done, e = s.Settle()
		wantErr(t, "Settle again", e, api.ErrOff)
		if done {
			t.Error("beside an error, true")
		}
		if !s.Has(stamp.Of(b)) || s.Has(stamp.Of(a)) || len(s.Keys()) != 1 {
			t.Error("beside an error, something has changed")
		}
	}
}

// masks are what is kept of writes that aren't safe: none, all, and some choices.
var masks = [][]byte{nil, {255}, {1}, {2}, {0x55}, {0xaa}, {0x7f}, {0xfe, 0xff}, {0, 0, 255}, {0xf0, 0x3c}}

func TestWholeOrNotAtAll(t *testing.T) { // P3, P7.3: each act of each call, and a stop in each act of Open
	a, b, c, more := some(1, 130), some(2, 1), some(3, 129), some(4, 200)
	base := device(12)
	s := open(t, base)
	for _, p := range [][]byte{a, b, c} {
		put(t, s, p)
	}
	drop(t, s, a)
	calls := []struct {
		do    func(s *Shelf) api.Errno
		after [][]byte
	}{
		{func(s *Shelf) api.Errno { _, e := s.Put(more); return e }, [][]byte{b, c, more}},
		{func(s *Shelf) api.Errno { return s.Drop(stamp.Of(c)) }, [][]byte{b}},
		{func(s *Shelf) api.Errno { _, e := s.Settle(); return e }, [][]byte{b, c}},
	}
	for _, call := range calls {
		for stop, done := 0, false; !done; stop++ {
			for _, mask := range masks {
				for again := -1; again < 7; again++ {
					d := base.Twin()
					s := open(t, d)
					d.Arm(stop)
					e := call.do(s)
					done = e == api.OK
					d.Crash(mask)
					d.Arm(again)
					journal.Open(d)
					d.Crash(mask)
					s = open(t, d)
					if done || len(s.Keys()) == len(call.after) {
						has(t, s, 12, call.after...)
					} else {
						has(t, s, 12, b, c)
					}
				}
			}
		}
	}
}

// model is what a shelf should be: objects, and where they begin, by their slots.
type model struct {
	sectors int
	p       [Slots][]byte
	at      [Slots]int
}

// least is the least place in which so many sectors are free; -1: there is none.
func (m *model) least(n int) int {
	taken := make([]bool, m.sectors)
	for i, p := range m.p {
		for k := 0; 64*k < len(p); k++ {
			taken[m.at[i]+k] = true
		}
	}
	for at := 0; at+n <= m.sectors; at++ {
		if !slices.Contains(taken[at:at+n], true) {
			return at
		}
	}
	return -1
}

func (m *model) slot(p []byte) int {
	return slices.IndexFunc(m.p[:], func(q []byte) bool { return bytes.Equal(p, q) })
}

func (m *model) put(p []byte) api.Errno {
	if m.slot(p) >= 0 {
		return api.OK
	}
	slot, at := m.slot(nil), m.least((len(p)+63)/64)
	if slot < 0 || at < 0 {
		return api.ErrFull
	}
	m.p[slot], m.at[slot] = p, at
	return api.OK
}

func (m *model) drop(p []byte) api.Errno {
	slot := m.slot(p)
	if slot < 0 {
		return api.ErrNone
	}
	m.p[slot], m.at[slot] = nil, 0
	return api.OK
}

func (m *model) settle() bool {
	for i, p := range m.p {
		if at := m.least((len(p) + 63) / 64); p != nil && at >= 0 && at < m.at[i] {
			m.at[i] = at
			return true
		}
	}
	return false
}

// is tells whether a disk has just what the model has, where it has it.
func (m *model) is(t *testing.T, d *disk.Disk) bool {
	l := behind(t, d)
	for i, p := range m.p {
		want := make([]byte, 64)
		if p != nil {
			want = check.Seal(slot(1, stamp.Of(p), Head+m.at[i], len(p)))
		}
		if !bytes.Equal(l[i], want) {
			return false
		}
		at := Head + m.at[i]
		if got := slices.Concat(l[at : at+(len(p)+63)/64]...); !bytes.HasPrefix(got, p) || len(bytes.Trim(got[len(p):], "\x00")) > 0 {
			return false
		}
	}
	return true
}

// step does one thing on the shelf, and on the model of it, and tells whether they answer the same; a disk that stops answers ErrOff.
func step(r *rand.Rand, s *Shelf, m *model) (bool, api.Errno) {
	size := 1 + r.Intn(900)
	if r.Intn(2) == 0 {
		size = 1 + r.Intn(100)
	}
	p := some(r.Intn(70), size)
	there := m.p[r.Intn(Slots)]
	switch r.Intn(4) {
	case 0, 1:
		if there != nil && r.Intn(4) == 0 {
			p = there
		}
		want := m.put(p)
		k, e := s.Put(p)
		return e == api.ErrOff || e == want && (k == stamp.Of(p)) == (e == api.OK), e
	case 2:
		if there != nil {
			p = there
		}
		want := m.drop(p)
		e := s.Drop(stamp.Of(p))
		return e == api.ErrOff || e == want, e
	}
	want := m.settle()
	done, e := s.Settle()
	return e == api.ErrOff && !done || e == api.OK && done == want, e
}

func TestManySteps(t *testing.T) { // P2, P3, P7.1, P7.2, P7.3: beside a plain model; it stops now and then
	r := rand.New(rand.NewSource(7))
	for round := range 40 {
		sectors := []int{1, 14, 30, 100, 300}[round%5]
		d := device(sectors)
		s, now := open(t, d), model{sectors: sectors}
		for range 150 {
			next := now
			d.Arm(r.Intn(400) - 200)
			same, e := step(r, s, &next)
			d.Arm(-1)
			if !same {
				t.Fatalf("another answer: %d", e)
			}
			if e == api.ErrOff {
				d.Crash(masks[r.Intn(len(masks))])
			}
			if e == api.ErrOff || r.Intn(10) == 0 {
				s = open(t, d)
			}
			switch {
			case next.is(t, d):
				now = next
			case e != api.ErrOff || !now.is(t, d):
				t.Fatalf("it isn't there whole, or not at all: %d", e)
			}
			var l [][]byte
			for _, p := range now.p {
				if p != nil {
					l = append(l, p)
				}
			}
			has(t, s, sectors, l...)
		}
	}
}

func TestShelfHasItsOwnBytes(t *testing.T) { // P2, and the rule on memory
	d := device(8)
	s := open(t, d)
	p := []byte("abcdef")
	k := put(t, s, p[:3])
	if string(p) != "abcdef" {
		t.Error("handed in, and changed")
	}
	copy(p, "xxxxxx")
	l := s.Keys()
	put(t, s, []byte("another"))
	l[0] = api.Key{}
	_ = append(l, api.Key{}, api.Key{})
	got, _ := s.Get(k)
	copy(got, "yyyyyy")
	_ = append(got, 'z')
	has(t, s, 8, []byte("abc"), []byte("another"))
	has(t, open(t, d), 8, []byte("abc"), []byte("another"))
}
