package field

import (
	"bytes"
	"math"
	"slices"
	"strings"
	"testing"

	"ecdysis/api"
	"ecdysis/kind"
)

// What the document says of each kind that is not Bytes, told once more, apart from the program.
var sizes = map[int]int{
	api.U8: 1, api.I8: 1, api.Bool: 1,
	api.U16: 2, api.I16: 2,
	api.U32: 4, api.I32: 4,
	api.U64: 8, api.I64: 8, api.F64: 8, api.Ref: 8,
}

const (
	letters = "abcdefghijklmnopqrstuvwxyz"
	later   = letters + "0123456789_"
)

func of(name string, kind int) api.Field { return api.Field{Name: name, Kind: kind} }

func text(name string, long int) api.Field {
	return api.Field{Name: name, Kind: api.Bytes, Long: long}
}

// named is these fields with the names a, b, c ..
func named(l ...api.Field) []api.Field {
	l = slices.Clone(l)
	for i := range l {
		l[i].Name = letters[i : i+1]
	}
	return l
}

// shapes has a field of each kind, and of Bytes some lengths, edges among them.
func shapes() []api.Field {
	var list []api.Field
	for k := api.U8; k < api.Bytes; k++ {
		list = append(list, of("", k))
	}
	for _, long := range []int{1, 2, 3, 7, 8, 9, 63, 64} {
		list = append(list, text("", long))
	}
	return list
}

// full is as much as fields may be: MaxFields, each of a name of MaxName bytes.
func full() []api.Field {
	var list []api.Field
	for i := range api.MaxFields {
		f := text(strings.Repeat("z", api.MaxName-1)+letters[i:i+1], api.MaxLong)
		if i%2 == 0 {
			f.Kind, f.Long = api.U8, 0
		}
		list = append(list, f)
	}
	return list
}

// mixed has a field of each kind, with holes between them that are no field's.
func mixed() []api.Field {
	return named(of("", api.U8), of("", api.U16), of("", api.Bool), of("", api.U32), text("", 3), of("", api.I16),
		of("", api.U64), of("", api.I8), of("", api.I32), of("", api.Bool), of("", api.I64), text("", 1), of("", api.F64), of("", api.U8), of("", api.Ref))
}

// rightLists has all fields of one, two and three shapes, and greater ones.
func rightLists() [][]api.Field {
	list := [][]api.Field{nil, {}, full(), mixed(), {of(letters[:15], api.Ref)}}
	for _, x := range shapes() {
		list = append(list, named(x))
		for _, y := range shapes() {
			list = append(list, named(x, y))
			for _, z := range shapes() {
				list = append(list, named(x, y, z))
			}
		}
	}
	return list
}

// wrongLists has fields each of which is wrong in one way alone.
func wrongLists() [][]api.Field {
	var list [][]api.Field
	for _, name := range []string{"", "A", "aB", "1", "_", "a ", "a-", "a\x00", "a\xff", "é", letters[:16], strings.Repeat("a", 300)} {
		list = append(list, []api.Field{of(name, api.U8)}, []api.Field{of("a", api.U8), of(name, api.U8)})
	}
	for _, k := range []int{math.MinInt, -1, 0, 13, 255, 256 + api.U8, 1<<32 + api.U8, math.MaxInt} {
		list = append(list, []api.Field{of("a", k)}, []api.Field{of("a", api.U8), of("b", k)})
	}
	for k := range sizes {
		for _, long := range []int{math.MinInt, -1, 1, 2, 4, 8, math.MaxInt} {
			list = append(list, []api.Field{{Name: "a", Kind: k, Long: long}})
		}
	}
	for _, long := range []int{math.MinInt, -1, 0, 65, 256 + 1, math.MaxInt} {
		list = append(list, []api.Field{text("a", long)}, []api.Field{of("b", api.Ref), text("a", long)})
	}
	for i := range 16 {
		for j := range i {
			l := full()
			l[i].Name = l[j].Name
			list = append(list, l)
		}
	}
	return append(list, append(full(), of("a", api.U8)), make([]api.Field, 1000))
}

// laid tells where fields stand by looking at one place behind the other.
func laid(l []api.Field) ([]int, int) {
	var list []int
	end := 0
	for _, f := range l {
		long, step := f.Long, 1
		if f.Kind != api.Bytes {
			long, step = sizes[f.Kind], sizes[f.Kind]
		}
		for end%step != 0 {
			end++
		}
		list = append(list, end)
		end += long
	}
	for end%8 != 0 {
		end++
	}
	return list, end
}

// filled is an object whose bytes are 0 nowhere for long, those of holes too, so that a change of one is seen.
func filled(long int) []byte {
	b := make([]byte, long)
	for i := range b {
		b[i] = byte(i*37 + i/7)
	}
	return b
}

// some tells values of a field, the least and the greatest bytes among them.
func some(t *testing.T, f api.Field) []api.Value {
	t.Helper()
	var list []api.Value
	for _, one := range []byte{0, 1, 127, 128, 255} {
		b := bytes.Repeat([]byte{one}, kind.Long(f))
		b[0] ^= 1
		if f.Kind == api.Bool {
			b[0] &= 1
		}
		v, e := kind.Decode(b, f)
		if e != api.OK {
			t.Fatalf("no value of %v: %d", f, e)
		}
		list = append(list, v)
	}
	return list
}

func spoil(b []byte) {
	b = b[:cap(b)]
	for i := range b {
		b[i] ^= 0xff
	}
}

func TestP6_1_NameOfEachByte(t *testing.T) {
	for n := range 256 {
		one := string([]byte{byte(n)})
		if got, want := Name(one), strings.Contains(letters, one); got != want {
			t.Errorf("Name(%q) is %v", one, got)
		}
		want := strings.Contains(later, one)
		for _, s := range []string{"a" + one, "z" + one + "a", "m0_" + one, letters[:14] + one} {
			if got := Name(s); got != want {
				t.Errorf("Name(%q) is %v", s, got)
			}
		}
	}
}

func TestP6_1_NameOfEachLength(t *testing.T) {
	for long := range 40 {
		for _, one := range []string{"a", "0", "_"} {
			s := ("b" + strings.Repeat(one, 40))[:long]
			if got := Name(s); got != (long >= 1 && long <= 15) {
				t.Errorf("Name(%q) is %v", s, got)
			}
		}
	}
}

func TestP6_1_NameIsOfPlainLetters(t *testing.T) {
	// Letters and digits of other writings, some of which become plain ones in other cases; bytes that are no text.
	for _, s := range []string{"é", "\u017f", "\u212a", "\uff41", "\u0661", "\u0430", "\xff", "\xc3", "\x80", "\ufffd"} {
		for _, s := range []string{s, "a" + s, s + "a", "a" + s + "a"} {
			if Name(s) {
				t.Errorf("Name(%q)", s)
			}
		}
	}
}

func TestP6_1_Right(t *testing.T) {
	for _, l := range rightLists() {
		if !Right(l) {
			t.Errorf("Right(%v) is false", l)
		}
	}
	for _, l := range wrongLists() {
		if Right(l) {
			t.Errorf("Right(%v) is true", l)
		}
	}
}

func TestP6_1_RightAsksHowManyFields(t *testing.T) {
	var l []api.Field
	for many := range 26 {
		if got := Right(l); got != (many <= 16) {
			t.Errorf("Right of %d fields is %v", many, got)
		}
		l = append(l, of(letters[many:many+1], api.U8))
	}
}

func TestP6_1_LayoutExamples(t *testing.T) {
	for _, x := range []struct {
		l    []api.Field
		at   []int
		long int
	}{
		{[]api.Field{of("a", api.U8), of("b", api.U32), text("c", 3), of("d", api.Ref)}, []int{0, 4, 8, 16}, 24},
		{[]api.Field{of("a", api.U8), of("b", api.U32)}, []int{0, 4}, 8},
		{nil, nil, 0},
		{[]api.Field{}, nil, 0},
		{[]api.Field{of("a", api.Bool)}, []int{0}, 8},
		{[]api.Field{of("a", api.F64)}, []int{0}, 8},
		{[]api.Field{text("a", 1), text("b", 64), text("c", 2)}, []int{0, 1, 65}, 72},
		{[]api.Field{text("a", 8), text("b", 8)}, []int{0, 8}, 16},
		{[]api.Field{text("a", 5), text("b", 4)}, []int{0, 5}, 16},
		{[]api.Field{of("a", api.I8), of("b", api.I16), of("c", api.I8), of("d", api.I64), of("e", api.I8)}, []int{0, 2, 4, 8, 16}, 24},
	} {
		if at, long := Layout(x.l); !slices.Equal(at, x.at) || long != x.long {
			t.Errorf("Layout(%v) is %v, %d", x.l, at, long)
		}
	}
}

func TestP6_1_LayoutOfAll(t *testing.T) {
	for _, l := range rightLists() {
		want, size := laid(l)
		if at, long := Layout(l); !slices.Equal(at, want) || long != size {
			t.Errorf("Layout(%v) is %v, %d, want %v, %d", l, at, long, want, size)
		}
		if b := New(l); !bytes.Equal(b, make([]byte, size)) {
			t.Errorf("New(%v) is %v", l, b)
		}
		var refs []int
		for i, f := range l {
			if f.Kind == api.Ref {
				refs = append(refs, want[i])
			}
		}
		if got := Refs(l); !slices.Equal(got, refs) {
			t.Errorf("Refs(%v) is %v, want %v", l, got, refs)
		}
	}
}

func TestP6_1_RefsRise(t *testing.T) {
	l := named(of("", api.Ref), of("", api.U8), of("", api.Ref), of("", api.U64), text("", 9), of("", api.Ref), of("", api.F64))
	if refs := Refs(l); !slices.Equal(refs, []int{0, 16, 48}) {
		t.Errorf("Refs is %v", refs)
	}
	var all []int
	for i := range 16 {
		all = append(all, 8*i)
	}
	l = named(slices.Repeat([]api.Field{of("", api.Ref)}, 16)...)
	if refs := Refs(l); !slices.Equal(refs, all) {
		t.Errorf("Refs is %v", refs)
	}
}

func TestP6_1_WrongFieldsStandNowhere(t *testing.T) {
	for _, l := range wrongLists() {
		if at, long := Layout(l); len(at) != 0 || long != 0 {
			t.Errorf("Layout(%v) is %v, %d", l, at, long)
		}
		if refs := Refs(l); len(refs) != 0 {
			t.Errorf("Refs(%v) is %v", l, refs)
		}
		if b := New(l); len(b) != 0 {
			t.Errorf("New(%v) is %v", l, b)
		}
	}
}

func TestP6_1_Find(t *testing.T) {
	for _, l := range [][]api.Field{full(), mixed()} {
		for i, f := range l {
			if got := Find(l, f.Name); got != i {
				t.Errorf("Find(%q) is %d, want %d", f.Name, got, i)
			}
			for _, name := range []string{"", f.Name + "a", strings.ToUpper(f.Name), f.Name + "\x00", " " + f.Name} {
				if got := Find(l, name); got != -1 {
					t.Errorf("Find(%q) is %d", name, got)
				}
			}
		}
	}
	if Find(nil, "a") != -1 || Find(nil, "") != -1 {
		t.Error("one of no fields is found")
	}
}

func TestP6_1_FindIsTheFirstAlsoOfWrongFields(t *testing.T) {
	l := []api.Field{of("b", 99), of("a", api.U8), of("A", api.U8), of("a", api.U16), of("", api.U8), of("b", api.U8), of("", api.U8)}
	for name, want := range map[string]int{"b": 0, "a": 1, "A": 2, "": 4, "c": -1} {
		if got := Find(l, name); got != want {
			t.Errorf("Find(%q) is %d, want %d", name, got, want)
		}
	}
}

func TestP6_2_GetAndSetBytes(t *testing.T) {
	l := []api.Field{of("a", api.U8), of("b", api.I32), text("c", 3), of("d", api.Ref), of("e", api.Bool), of("f", api.U16)}
	b := []byte{
		200, 91, 92, 93, 254, 255, 255, 255,
		'x', 0, 'y', 94, 95, 96, 97, 98,
		3, 0, 0, 0, 1, 0, 0, 0,
		1, 99, 2, 1, 88, 89, 90, 91,
	}
	for i, want := range []api.Value{
		{Kind: api.U8, Bits: 200}, {Kind: api.I32, Bits: 1<<64 - 2}, {Kind: api.Bytes, Text: "x\x00y"},
		{Kind: api.Ref, Bits: 1<<32 + 3}, {Kind: api.Bool, Bits: 1}, {Kind: api.U16, Bits: 258},
	} {
		if v, e := Get(b, l, l[i].Name); e != api.OK || v != want {
			t.Errorf("Get(%q) is %v, %d, want %v", l[i].Name, v, e, want)
		}
	}
	for i, x := range []struct {
		v    api.Value
		at   int
		want string
	}{
		{api.Value{Kind: api.U8, Bits: 7}, 0, "\x07"},
		{api.Value{Kind: api.I32, Bits: 1<<64 - 1<<31}, 4, "\x00\x00\x00\x80"},
		{api.Value{Kind: api.Bytes, Text: "\xff\x00z"}, 8, "\xff\x00z"},
		{api.Value{Kind: api.Ref, Bits: 0x0807060504030201}, 16, "\x01\x02\x03\x04\x05\x06\x07\x08"},
		{api.Value{Kind: api.Bool}, 24, "\x00"},
		{api.Value{Kind: api.U16, Bits: 0xfeff}, 26, "\xff\xfe"},
	} {
		want := bytes.Clone(b)
		copy(want[x.at:], x.want)
		if got, e := Set(b, l, l[i].Name, x.v); e != api.OK || !bytes.Equal(got, want) {
			t.Errorf("Set(%q, %v) is %v, %d, want %v", l[i].Name, x.v, got, e, want)
		}
	}
}

func TestP6_2_AnObjectHasJustSoManyBytes(t *testing.T) {
	for _, l := range [][]api.Field{nil, named(of("", api.U8)), named(of("", api.U64), of("", api.U8)), mixed(), full()} {
		_, size := laid(l)
		for have := range size + 20 {
			b := make([]byte, have)
			for _, name := range []string{"a", "A", ""} {
				v, e := Get(b, l, name)
				x, es := Set(b, l, name, api.Value{Kind: api.U16, Bits: 1 << 40})
				if isForm := have != size; (e == api.ErrFieldForm) != isForm || (es == api.ErrFieldForm) != isForm {
					t.Errorf("%d bytes, where %d are asked: Get tells %d, Set tells %d", have, size, e, es)
				}
				if e != api.OK && v != (api.Value{}) || len(x) != 0 {
					t.Errorf("%d bytes, where %d are asked: beside an error %v, %v", have, size, v, x)
				}
			}
		}
	}
}

func TestP6_2_WrongFieldsAreRefusedFirst(t *testing.T) {
	for _, l := range wrongLists() {
		// Whole words of bytes, whatever so many fields might have, if they were right.
		for words := range 80 {
			b := make([]byte, 8*words)
			for _, name := range []string{l[0].Name, "nobody", ""} {
				if v, e := Get(b, l, name); e != api.ErrFieldForm || v != (api.Value{}) {
					t.Errorf("Get of %d words, %v, %q is %v, %d", words, l, name, v, e)
				}
				for _, v := range []api.Value{{}, {Kind: l[0].Kind}, {Kind: api.U8, Bits: 256}} {
					if x, e := Set(b, l, name, v); e != api.ErrFieldForm || len(x) != 0 {
						t.Errorf("Set of %d words, %v, %q, %v is %v, %d", words, l, name, v, x, e)
					}
				}
			}
		}
	}
}

func TestP6_2_NoSuchField(t *testing.T) {
	for _, l := range [][]api.Field{nil, mixed(), full()} {
		b := New(l)
		for _, name := range []string{"", "A", "nobody", "a ", "aa", "a\x00", "z", letters, "\xff"} {
			if v, e := Get(b, l, name); e != api.ErrFieldNone || v != (api.Value{}) {
				t.Errorf("Get(%q) is %v, %d", name, v, e)
			}
			for _, v := range []api.Value{{}, {Kind: api.U8}, {Kind: api.U8, Bits: 256}} {
				if x, e := Set(b, l, name, v); e != api.ErrFieldNone || len(x) != 0 {
					t.Errorf("Set(%q, %v) is %v, %d", name, v, x, e)
				}
			}
		}
	}
}

func TestP6_2_SetRefusesWhatIsNotRight(t *testing.T) {
	l := mixed()
	b := New(l)
	for _, f := range l {
		wrong := []api.Value{{}, {Kind: f.Kind + 1}, {Kind: -f.Kind}, {Kind: f.Kind, Text: "abcd"}, {Kind: f.Kind, Bits: 1, Text: "a"}}
		if size := sizes[f.Kind]; size > 0 && size < 8 {
			wrong = append(wrong, api.Value{Kind: f.Kind, Bits: 1 << (8 * size)})
		}
		if f.Kind == api.Bool {
			wrong = append(wrong, api.Value{Kind: f.Kind, Bits: 2})
		}
		for _, v := range wrong {
			if x, e := Set(b, l, f.Name, v); e != api.ErrKindForm || len(x) != 0 {
				t.Errorf("Set(%v, %v) is %v, %d", f, v, x, e)
			}
		}
	}
}

func TestP6_2_AWrongBoolIsNotGotAndIsSet(t *testing.T) {
	l := named(of("", api.U8), of("", api.Bool), of("", api.Bool))
	b := []byte{5, 2, 1, 0, 0, 0, 0, 9}
	if v, e := Get(b, l, "b"); e != api.ErrKindForm || v != (api.Value{}) {
		t.Errorf("Get of a wrong Bool is %v, %d", v, e)
	}
	if v, e := Get(b, l, "c"); e != api.OK || v != (api.Value{Kind: api.Bool, Bits: 1}) {
		t.Errorf("Get beside a wrong Bool is %v, %d", v, e)
	}
	if x, e := Set(b, l, "a", api.Value{Kind: api.U8, Bits: 6}); e != api.OK || !bytes.Equal(x, []byte{6, 2, 1, 0, 0, 0, 0, 9}) {
		t.Errorf("Set beside a wrong Bool is %v, %d", x, e)
	}
	if x, e := Set(b, l, "b", api.Value{Kind: api.Bool}); e != api.OK || !bytes.Equal(x, []byte{5, 0, 1, 0, 0, 0, 0, 9}) {
		t.Errorf("Set over a wrong Bool is %v, %d", x, e)
	}
}

func TestP6_2_SetTellsBytesOfItsOwn(t *testing.T) {
	l := named(of("", api.U8), of("", api.U64))
	all := filled(32)
	was := bytes.Clone(all)
	// There is room behind these bytes, that belongs to whoever holds all of them.
	b := all[:16]
	x, e := Set(b, l, "b", api.Value{Kind: api.U64, Bits: 1 << 63})
	if e != api.OK || !bytes.Equal(all, was) {
		t.Errorf("Set wrote into what it was given: %v, %d", all, e)
	}
	spoil(x)
	if !bytes.Equal(all, was) {
		t.Error("Set tells what it was given")
	}
	if v, e := Get(b, l, "b"); e != api.OK || !bytes.Equal(all, was) {
		t.Errorf("Get wrote into what it was given: %v, %d", v, e)
	}
	// A text that was got stays as it was.
	l = named(text("", 8))
	v, _ := Get(all[:8], l, "a")
	text := string(was[:8])
	spoil(all)
	if v.Text != text {
		t.Errorf("what was got is %q now", v.Text)
	}
}

func TestP6_2_NewIsOfItsOwn(t *testing.T) {
	l := named(of("", api.U8))
	spoil(New(l))
	if b := New(l); !bytes.Equal(b, make([]byte, 8)) {
		t.Errorf("New is %v", b)
	}
}

func TestP6_3_EncodeBytes(t *testing.T) {
	for _, x := range []struct {
		l    []api.Field
		want string
	}{
		{nil, "\x00"},
		{[]api.Field{}, "\x00"},
		{[]api.Field{of("a", api.U8)}, "\x01\x01a\x01\x00"},
		{[]api.Field{text("c", 3)}, "\x01\x01c\x0c\x03"},
		{[]api.Field{of("b_9", api.Ref), text("abcdefghijklmno", 64)}, "\x02\x03b_9\x0b\x00\x0fabcdefghijklmno\x0c\x40"},
		{[]api.Field{of("b", api.I32), text("c", 3)}, "\x02\x01b\x07\x00\x01c\x0c\x03"},
	} {
		if b, e := Encode(x.l); e != api.OK || string(b) != x.want {
			t.Errorf("Encode(%v) is %q, %d", x.l, b, e)
		}
		if l, e := Decode([]byte(x.want)); e != api.OK || !slices.Equal(l, x.l) {
			t.Errorf("Decode(%q) is %v, %d", x.want, l, e)
		}
	}
	for _, l := range wrongLists() {
		if b, e := Encode(l); e != api.ErrFieldForm || len(b) != 0 {
			t.Errorf("Encode(%v) is %v, %d", l, b, e)
		}
	}
}

// bare is what Encode would tell of fields, if it did not ask whether they are right.
func bare(l []api.Field) []byte {
	b := []byte{byte(len(l))}
	for _, f := range l {
		b = append(b, byte(len(f.Name)))
		b = append(b, f.Name...)
		b = append(b, byte(f.Kind), byte(f.Long))
	}
	return b
}

func TestP6_3_DecodeRefusesWrongFields(t *testing.T) {
	for _, l := range wrongLists() {
		isByte := len(l) < 256
		for _, f := range l {
			isByte = isByte && len(f.Name) < 256 && f.Kind >= 0 && f.Kind < 256 && f.Long >= 0 && f.Long < 256
		}
		if !isByte {
			continue
		}
		if got, e := Decode(bare(l)); e != api.ErrFieldForm || len(got) != 0 {
			t.Errorf("Decode of the bytes of %v is %v, %d", l, got, e)
		}
	}
}

func TestP6_3_DecodeAsksForAllBytesAndNoMore(t *testing.T) {
	for _, l := range [][]api.Field{nil, mixed(), full(), named(text("", 64))} {
		b, _ := Encode(l)
		for have := range b {
			if got, e := Decode(b[:have:have]); e != api.ErrFieldForm || len(got) != 0 {
				t.Errorf("Decode of %d bytes of %d is %v, %d", have, len(b), got, e)
			}
		}
		for _, more := range [][]byte{{0}, {1}, {255}, b, []byte("\x01z\x01\x00")} {
			if got, e := Decode(slices.Concat(b, more)); e != api.ErrFieldForm || len(got) != 0 {
				t.Errorf("Decode of %v behind the end is %v, %d", more, got, e)
			}
		}
	}
	for _, s := range []string{"", "\x01", "\x11", "\xff", "\x01\x00\x01\x00", "\x01\xffa\x01\x00", "\x01\x02a\x01\x00"} {
		if got, e := Decode([]byte(s)); e != api.ErrFieldForm || len(got) != 0 {
			t.Errorf("Decode(%q) is %v, %d", s, got, e)
		}
	}
}

func TestP6_4_WhateverBytesComeAreFieldsOrRefused(t *testing.T) {
	l := []api.Field{of("ab", api.U8), text("b", 3), of("c_1", api.Bool)}
	b, _ := Encode(l)
	for at := range b {
		for n := range 256 {
			x := bytes.Clone(b)
			x[at] = byte(n)
			got, e := Decode(x)
			if e != api.OK && (e != api.ErrFieldForm || len(got) != 0) {
				t.Errorf("Decode(%v) is %v, %d", x, got, e)
			}
			if e == api.OK && (!Right(got) || !bytes.Equal(bare(got), x)) {
				t.Errorf("Decode(%v) is %v", x, got)
			}
			if n == int(b[at]) && (e != api.OK || !slices.Equal(got, l)) {
				t.Errorf("Decode(%v) is %v, %d", x, got, e)
			}
		}
	}
}

func TestP6_3_DecodeOfAllShortBytes(t *testing.T) {
	// All bytes of these, up to so many: just those are fields that are right ones' bytes.
	alphabet := []byte{0, 1, 2, 3, 'a', 'b', api.Bytes}
	right := map[string]bool{}
	for _, name := range []string{"a", "b", "aa", "ab", "ba", "bb"} {
		for _, f := range []api.Field{of(name, 1), of(name, 2), of(name, 3), text(name, 1), text(name, 2), text(name, 3), text(name, api.Bytes)} {
			right[string(bare([]api.Field{f}))] = true
		}
	}
	right["\x00"] = true
	found := 0
	var each func(b []byte, more int)
	each = func(b []byte, more int) {
		l, e := Decode(b)
		if want := right[string(b)]; want != (e == api.OK) || want && !bytes.Equal(bare(l), b) {
			t.Errorf("Decode(%q) is %v, %d", b, l, e)
		}
		if e == api.OK {
			found++
		}
		for _, one := range alphabet {
			if more > 0 {
				each(append(bytes.Clone(b), one), more-1)
			}
		}
	}
	each(nil, 6)
	if found != len(right) {
		t.Errorf("%d of %d were found", found, len(right))
	}
}

func TestP6_3_BytesAreOfTheirOwn(t *testing.T) {
	l := mixed()
	was := slices.Clone(l)
	b, _ := Encode(l)
	first := bytes.Clone(b)
	m, _ := Decode(b)
	spoil(b)
	if !slices.Equal(m, was) || !slices.Equal(l, was) {
		t.Error("fields hang on their bytes")
	}
	m[0].Name = "spoilt"
	if x, _ := Encode(l); !bytes.Equal(x, first) || !slices.Equal(l, was) {
		t.Error("bytes hang on what was told ahead")
	}
	at, _ := Layout(l)
	refs := Refs(l)
	clear(at)
	clear(refs)
	if at, _ := Layout(l); at[1] == 0 || Refs(l)[0] == 0 {
		t.Error("places hang on what was told ahead")
	}
}

func TestP6_4_NoTwoStandInOnePlace(t *testing.T) {
	for _, l := range rightLists() {
		at, long := Layout(l)
		taken := make([]bool, long)
		for i, f := range l {
			size := f.Long
			if f.Kind != api.Bytes {
				size = sizes[f.Kind]
				if at[i]%size != 0 {
					t.Errorf("%v of %v stands at %d", f, l, at[i])
				}
			}
			for n := range size {
				if taken[at[i]+n] {
					t.Errorf("%v of %v stands at %d, where one stands already", f, l, at[i])
				}
				taken[at[i]+n] = true
			}
		}
	}
}

func TestP6_4_WhatWasSetIsGot(t *testing.T) {
	for _, l := range rightLists() {
		at, long := laid(l)
		b := filled(long)
		for i, f := range l {
			for _, v := range some(t, f) {
				x, e := Set(b, l, f.Name, v)
				if e != api.OK || len(x) != len(b) {
					t.Fatalf("Set(%v, %v) is %v, %d", f, v, x, e)
				}
				if got, e := Get(x, l, f.Name); e != api.OK || got != v {
					t.Errorf("%v of %v is set to %v, and got as %v, %d", f, l, v, got, e)
				}
				end := at[i] + kind.Long(f)
				if !bytes.Equal(x[:at[i]], b[:at[i]]) || !bytes.Equal(x[end:], b[end:]) {
					t.Errorf("Set(%v, %v) changed more than that", f, v)
				}
			}
		}
	}
}

func TestP6_4_NoOtherFieldIsAnotherOne(t *testing.T) {
	for _, l := range [][]api.Field{mixed(), full()} {
		b := New(l)
		want := map[string]api.Value{}
		for round := range 5 {
			for _, f := range l {
				v := some(t, f)[round]
				want[f.Name] = v
				b, _ = Set(b, l, f.Name, v)
				for name, v := range want {
					if got, e := Get(b, l, name); e != api.OK || got != v {
						t.Errorf("%q is %v, %d, want %v, as %q is set", name, got, e, v, f.Name)
					}
				}
			}
		}
	}
}

func TestP6_4_NewIsAllZero(t *testing.T) {
	l := mixed()
	for _, f := range l {
		if v, e := Get(New(l), l, f.Name); e != api.OK || v != kind.Zero(f) {
			t.Errorf("%v of a new one is %v, %d", f, v, e)
		}
	}
}

func TestP6_4_DecodeOfEncodeIsTheFields(t *testing.T) {
	for _, l := range rightLists() {
		b, e := Encode(l)
		if e != api.OK || !bytes.Equal(b, bare(l)) {
			t.Errorf("Encode(%v) is %v, %d", l, b, e)
		}
		if m, e := Decode(b); e != api.OK || !slices.Equal(m, l) {
			t.Errorf("Decode(Encode(%v)) is %v, %d", l, m, e)
		}
	}
}
