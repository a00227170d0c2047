package label

import (
	"bytes"
	"fmt"
	"math/rand"
	"slices"
	"strings"
	"testing"

	"interleaf/api"
	"interleaf/check"
	"interleaf/disk"
	"interleaf/journal"
	"interleaf/shelf"
)

// at is where the sectors of refs begin on a disk: behind the journal, and a shelf's slots.
const at = 49 + 48

func device() *disk.Disk {
	return disk.New(journal.Size + shelf.Head + 1)
}

func logged(t *testing.T, d *disk.Disk) *journal.Journal {
	t.Helper()
	j, e := journal.Open(d)
	if e != api.OK {
		t.Fatalf("journal.Open: %d", e)
	}
	return j
}

func open(t *testing.T, d *disk.Disk) *Table {
	t.Helper()
	x, e := Open(logged(t, d))
	if e != api.OK || x == nil {
		t.Fatalf("Open: %d", e)
	}
	return x
}

func wantErr(t *testing.T, what string, got, want api.Errno) {
	t.Helper()
	if got != want {
		t.Errorf("%s: %d, not %d", what, got, want)
	}
}

// has holds all that a table tells against the refs that it should have.
func has(t *testing.T, x *Table, refs ...Ref) {
	t.Helper()
	want := slices.Clone(refs)
	slices.SortFunc(want, func(a, b Ref) int { return strings.Compare(a.Name, b.Name) })
	if got := x.All(); !slices.Equal(got, want) {
		t.Errorf("All: %v, not %v", got, want)
	}
	for _, r := range refs {
		if got, e := x.Get(r.Name); got != r || e != api.OK {
			t.Errorf("Get of %s: %v, %d", r.Name, got, e)
		}
	}
}

// behind is all sectors of a disk, but its journal's.
func behind(t *testing.T, d *disk.Disk) [][]byte {
	t.Helper()
	var l [][]byte
	for i := journal.Size; i < d.Sectors(); i++ {
		p, e := d.Read(i)
		if e != api.OK {
			t.Fatal(e)
		}
		l = append(l, p)
	}
	return l
}

// body is a ref's sector, by hand, ahead of the seal.
func body(first, fast, size byte, name string, k api.Key) []byte {
	return slices.Concat([]byte{first, fast, size}, []byte(name), make([]byte, 12-len(name)), k[:])
}

// sealed is a ref's sector, by hand.
func sealed(r Ref) []byte {
	fast := byte(0)
	if r.Fast {
		fast = 1
	}
	return check.Seal(body(1, fast, byte(len(r.Name)), r.Name, r.Key))
}

func key(n int) api.Key {
	var k api.Key
	for i := range k {
		k[i] = byte(n*7 + i*3 + 1)
	}
	return k
}

func make1(t *testing.T, x *Table, r Ref) {
	t.Helper()
	wantErr(t, "Make of "+r.Name, x.Make(r), api.OK)
}

func TestExample(t *testing.T) { // P8.2: the chapter's example
	d := device()
	x := open(t, d)
	make1(t, x, Ref{Name: "main"})
	has(t, x, Ref{Name: "main"})
	wantErr(t, "Move", x.Move("main", key(1)), api.OK)
	has(t, x, Ref{Name: "main", Key: key(1)})
	wantErr(t, "Drop", x.Drop("main"), api.OK)
	has(t, x)
	has(t, open(t, d))
}

func TestRight(t *testing.T) { // P8.1
	for _, s := range []string{"a", "z", "m", "a0", "a9", "a.", "a..", "z.9.z", "abcdefghijkl", "zzzzzzzzzzz.", "a00000000009"} {
		if !Right(s) {
			t.Errorf("%q isn't right", s)
		}
	}
	for _, s := range []string{"", ".", "0", "9", ".a", "1a", "A", "aA", "aZ", "a b", " a", "a ", "a-", "a/", "a:", "a`", "a{", "`", "{", "a_", "a\x00", "\x00",
		"abcdefghijklm", "zzzzzzzzzzzzz", "ä", "aä", "aé.", "a\xff", "\xff", "a\xe4", "a١", "aǆ", "aｂ", "a\u0300", "абв", strings.Repeat("a", 1000)} {
		if Right(s) {
			t.Errorf("%q is right", s)
		}
	}
	for b := range 256 { // each byte by itself, and behind a letter
		letter, digit := b >= 'a' && b <= 'z', b >= '0' && b <= '9'
		c := string([]byte{byte(b)})
		if Right(c) != letter || Right("a"+c) != (letter || digit || b == '.') || Right("a"+c+"b") != Right("a"+c) {
			t.Errorf("%q", c)
		}
	}
}

func TestOpenAsksForMoreThanHead(t *testing.T) { // P8.1
	for _, n := range []int{1, 2, 48, 49, 59, 60} {
		d := disk.New(journal.Size + n)
		j := logged(t, d)
		d.Write(at, []byte("no ref"))
		for range 2 {
			x, e := Open(j)
			wantErr(t, "too small", e, api.ErrArg)
			if x != nil {
				t.Error("beside an error, a table")
			}
			d.Arm(0)
			d.Flush() // one that has stopped is too small all the same
		}
	}
	for _, j := range []*journal.Journal{nil, {}} {
		x, e := Open(j)
		wantErr(t, "no journal", e, api.ErrArg)
		if x != nil {
			t.Error("of no journal, a table")
		}
	}
	for _, n := range []int{61, 62, 200, api.MaxDisk - 49} {
		d := disk.New(journal.Size + n)
		has(t, open(t, d))
		if d.Acts() != 0 {
			t.Error("Open writes")
		}
	}
}

func TestOpenOfAStoppedDisk(t *testing.T) { // P8.1
	d := device()
	j := logged(t, d)
	d.Arm(0)
	d.Flush()
	x, e := Open(j)
	wantErr(t, "stopped", e, api.ErrOff)
	if x != nil {
		t.Error("beside an error, a table")
	}
}

func TestOpenTakesWhatSectorsTell(t *testing.T) { // P8.1
	d := device()
	l := []Ref{{"main", key(1), false}, {"v1.0", key(2), true}, {"abcdefghijkl", api.Key{}, true}, {"a", key(1), false}}
	for i, place := range []int{0, 11, 5, 6} {
		d.Write(at+place, sealed(l[i]))
	}
	for i := range shelf.Slots { // they are no refs
		d.Write(49+i, []byte("a slot"))
	}
	d.Write(49+60, []byte("an object"))
	x := open(t, d)
	has(t, x, l...)
	make1(t, x, Ref{Name: "b"})
	make1(t, x, Ref{Name: "c"})
	if p, _ := d.Read(at + 1); !bytes.Equal(p, sealed(Ref{Name: "b"})) {
		t.Error("not at the least sector that is free")
	}
	has(t, x, append(l, Ref{Name: "b"}, Ref{Name: "c"})...)
}

func TestOpenRefuses(t *testing.T) { // P8.1
	k := key(3)
	good := Ref{"main", k, false}
	spoilt, sum := sealed(Ref{Name: "b"}), sealed(Ref{Name: "b"})
	spoilt[20]++
	sum[63] ^= 128
	long := append(body(1, 0, 1, "b", k), make([]byte, 13)...)
	long[59] = 1
	bad := map[string][]byte{
		"not sealed":           append(body(1, 0, 1, "b", k), make([]byte, 17)...),
		"spoilt":               spoilt,
		"another sum":          sum,
		"a nought too few":     append(make([]byte, 63), 1),
		"sealed noughts":       check.Seal(nil),
		"first 0":              check.Seal(body(0, 0, 1, "b", k)),
		"first 2":              check.Seal(body(2, 0, 1, "b", k)),
		"fast 2":               check.Seal(body(1, 2, 1, "b", k)),
		"fast 255":             check.Seal(body(1, 255, 1, "b", k)),
		"no name":              check.Seal(body(1, 0, 0, "", k)),
		"13 bytes of a name":   check.Seal(body(1, 0, 13, "bbbbbbbbbbbb", api.Key{'b'})),
		"255 bytes of a name":  check.Seal(body(1, 1, 255, "bbbbbbbbbbbb", k)),
		"more behind the name": check.Seal(body(1, 0, 1, "bc", k)),
		"fewer than it says":   check.Seal(body(1, 0, 2, "b", k)),
		"a great letter":       check.Seal(body(1, 0, 1, "B", k)),
		"a digit first":        check.Seal(body(1, 0, 2, "1b", k)),
		"a point first":        check.Seal(body(1, 0, 2, ".b", k)),
		"a letter too far":     check.Seal(body(1, 0, 2, "b\xc3", k)),
		"something behind":     check.Seal(append(body(1, 0, 1, "b", k), 1)),
		"something at the end": check.Seal(long),
		"another one's name":   check.Seal(body(1, 0, 4, "main", key(4))),
		"it, and fast":         check.Seal(body(1, 1, 4, "main", key(4))),
		"just the same":        sealed(good),
	}
	for name, p := range bad {
		for _, place := range []int{0, 1, 8, 11} {
			d := device()
			d.Write(at+(place+3)%12, sealed(good))
			j := logged(t, d)
			_, e := Open(j)
			wantErr(t, name+", ahead of it", e, api.OK)
			d.Write(at+place, p)
			x, e := Open(j)
			wantErr(t, name, e, api.ErrForm)
			if x != nil {
				t.Error("beside an error, a table")
			}
		}
	}
}

func TestMakeLaysOut(t *testing.T) { // P8.1, P8.2
	for _, r := range []Ref{{"main", key(1), false}, {"a", api.Key{}, true}, {"abcdefghijkl", key(2), true}, {"z.", api.Key{31: 255}, false}} {
		d := device()
		x, want := open(t, d), behind(t, d)
		make1(t, x, r)
		want[48] = sealed(r)
		if !slices.EqualFunc(behind(t, d), want, bytes.Equal) {
			t.Errorf("%s is laid out otherwise", r.Name)
		}
		if d.Acts() != 6 || d.Wet() != 0 { // two halves, a head, a flush, a sector, a flush
			t.Errorf("%d acts", d.Acts())
		}
		has(t, x, r)
		has(t, open(t, d), r)
	}
}

func TestMakeRefuses(t *testing.T) { // P8.2
	d := device()
	x := open(t, d)
	var l []Ref
	for i := range api.MaxRefs {
		r := Ref{string(rune('l'-i)) + ".9", key(i), i%2 == 0}
		make1(t, x, r)
		l = append(l, r)
		acts := d.Acts()
		for _, s := range []string{"", "1", "Main", "abcdefghijklm", ".", "ä"} {
			wantErr(t, "not right", x.Make(Ref{Name: s, Key: key(1)}), api.ErrArg)
		}
		for _, r := range l { // as it is, or another one
			wantErr(t, "there", x.Make(r), api.ErrThere)
			wantErr(t, "there", x.Make(Ref{r.Name, key(99), !r.Fast}), api.ErrThere)
		}
		if d.Acts() != acts {
			t.Error("something was written")
		}
		has(t, x, l...)
	}
	acts := d.Acts()
	wantErr(t, "full", x.Make(Ref{Name: "zz"}), api.ErrFull)
	wantErr(t, "full", x.Make(Ref{Name: "a"}), api.ErrFull)
	if d.Acts() != acts {
		t.Error("something was written")
	}
	has(t, x, l...)
	has(t, open(t, d), l...)
	for i, r := range l { // of the places that are free, the least
		if p, _ := d.Read(at + i); !bytes.Equal(p, sealed(r)) {
			t.Errorf("%s isn't at %d", r.Name, i)
		}
	}
}

func TestMove(t *testing.T) { // P8.2
	d := device()
	x := open(t, d)
	a, b, c := Ref{"b.1", key(1), true}, Ref{"main", key(2), false}, Ref{"other", key(2), false}
	for _, r := range []Ref{a, b, c} {
		make1(t, x, r)
	}
	acts, want := d.Acts(), behind(t, d)
	for _, s := range []string{"", "mai", "mainx", "Main", "none", "abcdefghijklm"} {
		wantErr(t, "none", x.Move(s, key(3)), api.ErrNone)
	}
	wantErr(t, "fast", x.Move("b.1", key(3)), api.ErrKind)
	wantErr(t, "fast, to where it is", x.Move("b.1", key(1)), api.ErrKind)
	if d.Acts() != acts {
		t.Error("something was written")
	}
	has(t, x, a, b, c)
	for i, k := range []api.Key{key(3), {}, key(4), key(4)} {
		wantErr(t, "Move", x.Move("main", k), api.OK)
		b.Key = k
		want[49] = sealed(b)
		if !slices.EqualFunc(behind(t, d), want, bytes.Equal) || d.Acts() != acts+6*(i+1) || d.Wet() != 0 {
			t.Errorf("not just the ref's sector, in %d acts", d.Acts()-acts)
		}
		has(t, x, a, b, c)
		has(t, open(t, d.Twin()), a, b, c)
	}
}

func TestDrop(t *testing.T) { // P8.2
	d := device()
	x := open(t, d)
	a, b, c := Ref{"b.1", key(1), true}, Ref{"main", key(2), false}, Ref{"other", key(2), false}
	for _, r := range []Ref{a, b, c} {
		make1(t, x, r)
	}
	acts, want := d.Acts(), behind(t, d)
	for _, s := range []string{"", "b", "b.12", "MAIN", "none"} {
		wantErr(t, "none", x.Drop(s), api.ErrNone)
	}
	if d.Acts() != acts {
		t.Error("something was written")
	}
	wantErr(t, "Drop of a fast one", x.Drop("b.1"), api.OK)
	want[48] = make([]byte, 64)
	if !slices.EqualFunc(behind(t, d), want, bytes.Equal) || d.Acts() != acts+6 || d.Wet() != 0 {
		t.Errorf("not just the ref's sector, in %d acts", d.Acts()-acts)
	}
	has(t, x, b, c)
	has(t, open(t, d.Twin()), b, c)
	wantErr(t, "again", x.Drop("b.1"), api.ErrNone)
	wantErr(t, "Move of what was", x.Move("b.1", key(1)), api.ErrNone)
	got, e := x.Get("b.1")
	wantErr(t, "Get of what was", e, api.ErrNone)
	if got != (Ref{}) {
		t.Error("beside an error, a ref")
	}
	wantErr(t, "Drop", x.Drop("main"), api.OK)
	a.Fast = false
	make1(t, x, a) // another one of this name, which may be moved
	wantErr(t, "Move", x.Move("b.1", key(9)), api.OK)
	a.Key = key(9)
	has(t, x, a, c)
	if p, _ := d.Read(at); !bytes.Equal(p, sealed(a)) {
		t.Error("not at the least sector that is free")
	}
	wantErr(t, "Drop", x.Drop("other"), api.OK)
	wantErr(t, "Drop", x.Drop("b.1"), api.OK)
	has(t, x)
	has(t, open(t, d))
}

func TestGet(t *testing.T) { // P8.2
	x := open(t, device())
	make1(t, x, Ref{"main", key(1), false})
	for _, s := range []string{"", "m", "mainn", "Main", "main\x00", strings.Repeat("m", 1000)} {
		r, e := x.Get(s)
		wantErr(t, "none", e, api.ErrNone)
		if r != (Ref{}) {
			t.Error("beside an error, a ref")
		}
	}
}

func TestAllRise(t *testing.T) { // P8.2: whatever the order was in which they came
	names := []string{"a", "a.", "a..", "a.b", "a0", "a9", "aa", "ab", "b", "b1", "z", "zz"} // a point is ahead of digits, these ahead of letters
	r := rand.New(rand.NewSource(1))
	for range 50 {
		x := open(t, device())
		for _, i := range r.Perm(12) {
			make1(t, x, Ref{names[i], key(i), i%3 == 0})
		}
		var got []string
		for _, r := range x.All() {
			got = append(got, r.Name)
		}
		if !slices.Equal(got, names) {
			t.Fatal(got)
		}
	}
}

func TestNilTable(t *testing.T) { // P1, P8.2
	var x *Table
	for _, s := range []string{"main", "", "1", "abcdefghijklm"} {
		wantErr(t, "Make", x.Make(Ref{Name: s}), api.ErrNone)
		wantErr(t, "Move", x.Move(s, api.Key{}), api.ErrNone)
		wantErr(t, "Drop", x.Drop(s), api.ErrNone)
		r, e := x.Get(s)
		wantErr(t, "Get", e, api.ErrNone)
		if r != (Ref{}) {
			t.Error("something of nothing")
		}
	}
	if len(x.All()) != 0 {
		t.Error("something of nothing")
	}
	x = &Table{} // nothing is promised of it, but that its calls end
	x.Make(Ref{Name: "main"})
	x.Move("main", api.Key{})
	x.Drop("main")
	x.Get("main")
	x.All()
}

func TestStoppedTable(t *testing.T) { // P8.2: the disk's errors; its calls end
	for stop := range 6 {
		for call := range 3 {
			d := device()
			x := open(t, d)
			a := Ref{"main", key(1), false}
			make1(t, x, a)
			d.Arm(stop)
			for range 2 {
				e := []func() api.Errno{
					func() api.Errno { return x.Make(Ref{Name: "b"}) },
					func() api.Errno { return x.Move("main", key(2)) },
					func() api.Errno { return x.Drop("main") },
				}[call]()
				wantErr(t, "stopped", e, api.ErrOff)
				has(t, x, a)
			}
			wantErr(t, "Make", x.Make(a), api.ErrThere)
			wantErr(t, "Make", x.Make(Ref{Name: "1"}), api.ErrArg)
			wantErr(t, "Move", x.Move("b", key(2)), api.ErrNone)
			wantErr(t, "Drop", x.Drop("b"), api.ErrNone)
		}
	}
}

// masks are what is kept of writes that aren't safe: none, all, and some choices.
var masks = [][]byte{nil, {255}, {1}, {2}, {4}, {8}, {0x55}, {0xaa}, {0x7f}, {0xfe, 0xff}}

func TestWholeOrNotAtAll(t *testing.T) { // P3, P8.2: each act of each call
	a, b := Ref{"b.1", key(1), true}, Ref{"main", key(2), false}
	base := device()
	x := open(t, base)
	make1(t, x, a)
	make1(t, x, b)
	more, moved := Ref{"more", key(3), true}, Ref{"main", key(3), false}
	calls := []struct {
		do    func(x *Table) api.Errno
		after []Ref
	}{
		{func(x *Table) api.Errno { return x.Make(more) }, []Ref{a, b, more}},
		{func(x *Table) api.Errno { return x.Move("main", key(3)) }, []Ref{a, moved}},
		{func(x *Table) api.Errno { return x.Drop("b.1") }, []Ref{b}},
	}
	for _, call := range calls {
		for stop, done := 0, false; !done; stop++ {
			if stop > 6 {
				t.Fatal("it is never done")
			}
			for _, mask := range masks {
				d := base.Twin()
				x := open(t, d)
				d.Arm(stop)
				done = call.do(x) == api.OK
				d.Crash(mask)
				x = open(t, d)
				if done || slices.Equal(x.All(), call.after) {
					has(t, x, call.after...)
				} else {
					has(t, x, a, b)
				}
			}
		}
	}
}

// model is what a table should be: refs by their sectors.
type model [12]Ref

func (m *model) find(name string) int {
	return slices.IndexFunc(m[:], func(r Ref) bool { return r.Name == name })
}

func (m *model) make(r Ref) api.Errno {
	if m.find(r.Name) >= 0 {
		return api.ErrThere
	}
	i := m.find("")
	if i < 0 {
		return api.ErrFull
	}
	m[i] = r
	return api.OK
}

func (m *model) move(name string, k api.Key) api.Errno {
	i := m.find(name)
	if i < 0 {
		return api.ErrNone
	}
	if m[i].Fast {
		return api.ErrKind
	}
	m[i].Key = k
	return api.OK
}

func (m *model) drop(name string) api.Errno {
	i := m.find(name)
	if i < 0 {
		return api.ErrNone
	}
	m[i] = Ref{}
	return api.OK
}

// is tells whether a disk has just what the model has, where it has it.
func (m *model) is(t *testing.T, d *disk.Disk) bool {
	for i, p := range behind(t, d) {
		want := make([]byte, 64)
		if i >= 48 && i < 60 && m[i-48].Name != "" {
			want = sealed(m[i-48])
		}
		if !bytes.Equal(p, want) {
			return false
		}
	}
	return true
}

// step does one thing on the table, and on the model of it: what each answers.
func step(r *rand.Rand, x *Table, m *model) (got, want api.Errno) {
	ref := Ref{fmt.Sprintf("n.%d", r.Intn(16)), key(r.Intn(9)), r.Intn(3) == 0}
	switch r.Intn(5) {
	case 0, 1:
		return x.Make(ref), m.make(ref)
	case 2, 3:
		return x.Move(ref.Name, ref.Key), m.move(ref.Name, ref.Key)
	}
	return x.Drop(ref.Name), m.drop(ref.Name)
}

func TestManySteps(t *testing.T) { // P2, P3, P8.1, P8.2: beside a plain model; it stops now and then
	r := rand.New(rand.NewSource(8))
	for range 40 {
		d := device()
		x, now := open(t, d), model{}
		for range 200 {
			next := now
			d.Arm(r.Intn(60) - 40)
			e, want := step(r, x, &next)
			d.Arm(-1)
			if e != api.ErrOff && e != want {
				t.Fatalf("another answer: %d, not %d", e, want)
			}
			if e == api.ErrOff {
				d.Crash(masks[r.Intn(len(masks))])
			}
			if e == api.ErrOff || r.Intn(10) == 0 {
				x = open(t, d)
			}
			switch {
			case next.is(t, d):
				now = next
			case e != api.ErrOff || !now.is(t, d):
				t.Fatalf("it isn't there whole, or not at all: %d", e)
			}
			has(t, x, slices.DeleteFunc(slices.Clone(now[:]), func(r Ref) bool { return r.Name == "" })...)
		}
	}
}

func TestBesideAShelf(t *testing.T) { // P8.1: refs and objects stand on one disk, and neither touches the other's sectors
	d := disk.New(200)
	j := logged(t, d)
	s, e := shelf.Open(j)
	wantErr(t, "shelf.Open", e, api.OK)
	x, e := Open(j)
	wantErr(t, "Open", e, api.OK)
	var refs []Ref
	for i := range 12 {
		k, e := s.Put(bytes.Repeat([]byte{byte(i + 1)}, 300))
		wantErr(t, "Put", e, api.OK)
		refs = append(refs, Ref{fmt.Sprintf("n%d", i), k, i%2 == 0})
		make1(t, x, refs[i])
	}
	j = logged(t, d)
	s, e = shelf.Open(j)
	wantErr(t, "shelf.Open", e, api.OK)
	has(t, open(t, d), refs...)
	for _, r := range refs {
		p, e := s.Get(r.Key)
		wantErr(t, "Get", e, api.OK)
		if len(p) != 300 {
			t.Error(r.Name)
		}
	}
}

func TestTableHasItsOwnRefs(t *testing.T) { // P2, and the rule on memory
	x := open(t, device())
	a, b := Ref{"a", key(1), false}, Ref{"b", key(2), true}
	make1(t, x, a)
	make1(t, x, b)
	l := x.All()
	m := x.All()
	_ = append(l[:1], Ref{Name: "x"})
	_ = append(m, Ref{Name: "y"}, Ref{Name: "z"})
	l[0] = Ref{}
	has(t, x, a, b)
	if m[0] != a || m[1] != b {
		t.Error("two answers share memory")
	}
}
