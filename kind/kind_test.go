package kind

import (
	"bytes"
	"math"
	"math/big"
	"strings"
	"testing"

	"ecdysis/api"
)

// What the document says of each kind that is not Bytes, told once more, apart from the program.
type row struct {
	kind, size int
	least, top *big.Int // of a number; none of F64 and Ref
	isSigned   bool
}

func number(text string) *big.Int {
	n, _ := new(big.Int).SetString(text, 10)
	return n
}

func rows() []row {
	return []row{
		{api.U8, 1, number("0"), number("255"), false},
		{api.U16, 2, number("0"), number("65535"), false},
		{api.U32, 4, number("0"), number("4294967295"), false},
		{api.U64, 8, number("0"), number("18446744073709551615"), false},
		{api.I8, 1, number("-128"), number("127"), true},
		{api.I16, 2, number("-32768"), number("32767"), true},
		{api.I32, 4, number("-2147483648"), number("2147483647"), true},
		{api.I64, 8, number("-9223372036854775808"), number("9223372036854775807"), true},
		{api.Bool, 1, number("0"), number("1"), false},
		{api.F64, 8, nil, nil, false},
		{api.Ref, 8, nil, nil, false},
	}
}

// meant is the number that bits are of the row's kind.
func (r row) meant(bits uint64) *big.Int {
	if r.isSigned {
		return big.NewInt(int64(bits))
	}
	return new(big.Int).SetUint64(bits)
}

func (r row) has(bits uint64) bool {
	if r.least == nil {
		return true
	}
	n := r.meant(bits)
	return n.Cmp(r.least) >= 0 && n.Cmp(r.top) <= 0
}

func of(kind int) api.Field { return api.Field{Name: "a", Kind: kind} }

func text(long int) api.Field { return api.Field{Name: "b", Kind: api.Bytes, Long: long} }

// The numbers at which widths, signs and floats begin and end, with their neighbours.
func patterns() []uint64 {
	list := []uint64{0x0102030405060708, 0xf0e1d2c3b4a59687, 0xff00, 0x00ff00ff00ff00ff}
	for bit := range 64 {
		n := uint64(1) << bit
		list = append(list, n-1, n, n+1, -n, -n-1, -n+1)
	}
	for _, x := range floats() {
		list = append(list, math.Float64bits(x))
	}
	return append(list, 0x7ff0000000000001, 0x7ff8000000000001, 0xfff8000000000000, 0xffffffffffffffff)
}

func floats() []float64 {
	list := []float64{
		0, math.Copysign(0, -1), 0.5, 0.9999999999999999, 1, 1.5, 2.5, 2.9, 3.5, 1e15 + 0.5, 1e18, 1e19, 1e300,
		math.SmallestNonzeroFloat64, math.MaxFloat64, math.Inf(1),
	}
	for bit := range 66 {
		x := math.Ldexp(1, bit)
		list = append(list, x, math.Nextafter(x, 0), math.Nextafter(x, math.Inf(1)), x-0.5, x+0.5, x-1, x+1)
	}
	for _, x := range list {
		list = append(list, -x)
	}
	return list
}

// Fields that may not be, with the wrong kinds and the wrong lengths.
func wrongFields() []api.Field {
	var list []api.Field
	for _, kind := range []int{math.MinInt, -1, 0, 13, 14, 255, 256 + api.U8, 1<<32 + api.U8, math.MaxInt} {
		for _, long := range []int{math.MinInt, -1, 0, 1, 8, math.MaxInt} {
			list = append(list, api.Field{Kind: kind, Long: long})
		}
	}
	for _, r := range rows() {
		for _, long := range []int{math.MinInt, -1, 1, 2, 4, 8, 64, math.MaxInt} {
			list = append(list, api.Field{Kind: r.kind, Long: long})
		}
	}
	for _, long := range []int{math.MinInt, -64, -1, 0, 65, 128, 1 << 32, math.MaxInt} {
		list = append(list, text(long))
	}
	return list
}

func rightFields() []api.Field {
	var list []api.Field
	for _, r := range rows() {
		list = append(list, of(r.kind))
	}
	for long := 1; long <= api.MaxLong; long++ {
		list = append(list, text(long))
	}
	return list
}

func TestP5_1_Long(t *testing.T) {
	for _, r := range rows() {
		if long := Long(of(r.kind)); long != r.size {
			t.Errorf("Long of kind %d is %d, want %d", r.kind, long, r.size)
		}
	}
	for long := 1; long <= 64; long++ {
		if got := Long(text(long)); got != long {
			t.Errorf("Long of %d bytes is %d", long, got)
		}
	}
	for _, f := range wrongFields() {
		if long := Long(f); long != 0 {
			t.Errorf("Long(%v) is %d, want 0", f, long)
		}
	}
}

func TestP5_1_ZeroIsAllBytesZero(t *testing.T) {
	for _, f := range rightFields() {
		want := api.Value{Kind: f.Kind, Text: strings.Repeat("\x00", f.Long)}
		if v := Zero(f); v != want || !Right(v, f) {
			t.Errorf("Zero(%v) is %v", f, v)
		}
		if b, e := Encode(Zero(f), f); e != api.OK || !bytes.Equal(b, make([]byte, Long(f))) {
			t.Errorf("Zero(%v) has the bytes %v, %d", f, b, e)
		}
	}
	for _, f := range wrongFields() {
		if v := Zero(f); v != (api.Value{}) {
			t.Errorf("Zero(%v) is %v, want none", f, v)
		}
	}
}

func TestP5_1_RightBits(t *testing.T) {
	for _, r := range rows() {
		for _, bits := range patterns() {
			v := api.Value{Kind: r.kind, Bits: bits}
			if got := Right(v, of(r.kind)); got != r.has(bits) {
				t.Errorf("Right of kind %d, bits %x is %v", r.kind, bits, got)
			}
		}
	}
}

func TestP5_1_RightEdges(t *testing.T) {
	for _, x := range []struct {
		kind int
		bits int64
		want bool
	}{
		{api.U8, 255, true}, {api.U8, 256, false}, {api.U8, -1, false},
		{api.U16, 65535, true}, {api.U16, 65536, false},
		{api.U32, 1<<32 - 1, true}, {api.U32, 1 << 32, false},
		{api.U64, -1, true},
		{api.I8, 127, true}, {api.I8, 128, false}, {api.I8, -128, true}, {api.I8, -129, false}, {api.I8, 255, false},
		{api.I16, 32767, true}, {api.I16, 32768, false}, {api.I16, -32768, true}, {api.I16, -32769, false},
		{api.I32, 1<<31 - 1, true}, {api.I32, 1 << 31, false}, {api.I32, -1 << 31, true}, {api.I32, -1<<31 - 1, false},
		{api.I64, math.MinInt64, true}, {api.I64, math.MaxInt64, true},
		{api.Bool, 0, true}, {api.Bool, 1, true}, {api.Bool, 2, false}, {api.Bool, 255, false}, {api.Bool, -1, false}, {api.Bool, 256, false},
		{api.F64, -1, true}, {api.Ref, -1, true}, {api.Ref, 0, true},
	} {
		v := api.Value{Kind: x.kind, Bits: uint64(x.bits)}
		if got := Right(v, of(x.kind)); got != x.want {
			t.Errorf("Right of kind %d, %d is %v", x.kind, x.bits, got)
		}
	}
}

func TestP5_1_RightText(t *testing.T) {
	for long := 1; long <= 64; long++ {
		for have := 0; have <= 66; have++ {
			v := api.Value{Kind: api.Bytes, Text: strings.Repeat("\xff", have)}
			if got := Right(v, text(long)); got != (have == long) {
				t.Errorf("Right of %d bytes, where %d are asked, is %v", have, long, got)
			}
			v.Bits = 1
			if Right(v, text(long)) {
				t.Errorf("Right of %d bytes with bits", have)
			}
		}
	}
	for _, r := range rows() {
		for _, s := range []string{"\x00", "a", strings.Repeat("a", r.size)} {
			if v := (api.Value{Kind: r.kind, Text: s}); Right(v, of(r.kind)) {
				t.Errorf("Right of kind %d with the text %q", r.kind, s)
			}
		}
	}
}

func TestP5_1_RightAsksKindAndField(t *testing.T) {
	for _, f := range rightFields() {
		for _, g := range rightFields() {
			if got := Right(Zero(f), g); got != (f.Kind == g.Kind && f.Long == g.Long) {
				t.Errorf("Right of the zero of %v as %v is %v", f, g, got)
			}
		}
	}
	for _, f := range wrongFields() {
		for _, v := range []api.Value{{}, {Kind: f.Kind}, {Kind: f.Kind, Text: "a"}, {Kind: f.Kind, Text: strings.Repeat("a", 65)}} {
			if Right(v, f) {
				t.Errorf("Right(%v, %v)", v, f)
			}
		}
	}
}

func TestP5_1_NameCountsNothing(t *testing.T) {
	v := api.Value{Kind: api.U8, Bits: 7}
	for _, name := range []string{"", "a", strings.Repeat("z", 99), "\x00\xff"} {
		f, to := api.Field{Name: name, Kind: api.U8}, api.Field{Kind: api.U16}
		if Long(f) != 1 || !Right(v, f) || Zero(f) != (api.Value{Kind: api.U8}) || !Casts(f, to) {
			t.Errorf("the name %q counts", name)
		}
	}
}

func TestP5_2_EncodeBytes(t *testing.T) {
	for _, x := range []struct {
		f    api.Field
		v    api.Value
		want string
	}{
		{of(api.U8), api.Value{Kind: api.U8, Bits: 200}, "\xc8"},
		{of(api.U16), api.Value{Kind: api.U16, Bits: 258}, "\x02\x01"},
		{of(api.U32), api.Value{Kind: api.U32, Bits: 0x04030201}, "\x01\x02\x03\x04"},
		{of(api.U64), api.Value{Kind: api.U64, Bits: 0x0807060504030201}, "\x01\x02\x03\x04\x05\x06\x07\x08"},
		{of(api.I8), api.Value{Kind: api.I8, Bits: 1<<64 - 1}, "\xff"},
		{of(api.I16), api.Value{Kind: api.I16, Bits: 1<<64 - 2}, "\xfe\xff"},
		{of(api.I32), api.Value{Kind: api.I32, Bits: 1<<64 - 1<<31}, "\x00\x00\x00\x80"},
		{of(api.I64), api.Value{Kind: api.I64, Bits: 1<<64 - 256}, "\x00\xff\xff\xff\xff\xff\xff\xff"},
		{of(api.Bool), api.Value{Kind: api.Bool}, "\x00"},
		{of(api.Bool), api.Value{Kind: api.Bool, Bits: 1}, "\x01"},
		{of(api.F64), api.Value{Kind: api.F64, Bits: math.Float64bits(1)}, "\x00\x00\x00\x00\x00\x00\xf0\x3f"},
		{of(api.Ref), api.Value{Kind: api.Ref, Bits: 1<<32 + 3}, "\x03\x00\x00\x00\x01\x00\x00\x00"},
		{text(1), api.Value{Kind: api.Bytes, Text: "\xff"}, "\xff"},
		{text(3), api.Value{Kind: api.Bytes, Text: "a\x00b"}, "a\x00b"},
	} {
		if b, e := Encode(x.v, x.f); e != api.OK || string(b) != x.want {
			t.Errorf("Encode(%v, %v) is %q, %d, want %q", x.v, x.f, b, e, x.want)
		}
		if v, e := Decode([]byte(x.want), x.f); e != api.OK || v != x.v {
			t.Errorf("Decode(%q, %v) is %v, %d, want %v", x.want, x.f, v, e, x.v)
		}
	}
}

func TestP5_2_EncodeRefusesWhatIsNotRight(t *testing.T) {
	refused := func(v api.Value, f api.Field) {
		t.Helper()
		if b, e := Encode(v, f); e != api.ErrKindForm || b != nil {
			t.Errorf("Encode(%v, %v) is %v, %d", v, f, b, e)
		}
	}
	for _, f := range wrongFields() {
		refused(api.Value{}, f)
		refused(api.Value{Kind: f.Kind}, f)
	}
	for _, r := range rows() {
		refused(api.Value{Kind: r.kind, Text: "a"}, of(r.kind))
		refused(api.Value{Kind: r.kind + 1}, of(r.kind))
		for _, bits := range patterns() {
			if !r.has(bits) {
				refused(api.Value{Kind: r.kind, Bits: bits}, of(r.kind))
			}
		}
	}
	refused(api.Value{Kind: api.Bytes, Text: "ab"}, text(1))
	refused(api.Value{Kind: api.Bytes, Text: "ab"}, text(3))
	refused(api.Value{Kind: api.Bytes, Text: "ab", Bits: 1}, text(2))
}

func TestP5_2_DecodeAsksForJustSoManyBytes(t *testing.T) {
	for _, f := range rightFields() {
		for have := 0; have <= 70; have++ {
			want := api.ErrKindForm
			if have == Long(f) {
				want = api.OK
			}
			v, e := Decode(make([]byte, have), f)
			if e != want || e != api.OK && v != (api.Value{}) || e == api.OK && v != Zero(f) {
				t.Errorf("Decode of %d bytes as %v is %v, %d", have, f, v, e)
			}
		}
	}
	for _, f := range wrongFields() {
		for _, b := range [][]byte{nil, {}, {0}, {1}, make([]byte, 8), make([]byte, 65)} {
			if v, e := Decode(b, f); e != api.ErrKindForm || v != (api.Value{}) {
				t.Errorf("Decode(%v, %v) is %v, %d", b, f, v, e)
			}
		}
	}
}

func TestP5_2_DecodeOfEachByte(t *testing.T) {
	for n := range 256 {
		b := []byte{byte(n)}
		if v, e := Decode(b, of(api.U8)); e != api.OK || v != (api.Value{Kind: api.U8, Bits: uint64(n)}) {
			t.Errorf("%d as U8 is %v, %d", n, v, e)
		}
		if v, e := Decode(b, of(api.I8)); e != api.OK || v != (api.Value{Kind: api.I8, Bits: uint64(int64(int8(n)))}) {
			t.Errorf("%d as I8 is %v, %d", n, v, e)
		}
		want, wantE := api.Value{Kind: api.Bool, Bits: uint64(n)}, api.OK
		if n > 1 {
			want, wantE = api.Value{}, api.ErrKindForm
		}
		if v, e := Decode(b, of(api.Bool)); e != wantE || v != want {
			t.Errorf("%d as Bool is %v, %d", n, v, e)
		}
	}
}

func TestP5_2_BytesAreOnesOwn(t *testing.T) {
	for _, x := range []struct {
		f api.Field
		b []byte
	}{{of(api.U32), []byte{1, 2, 3, 4}}, {text(3), []byte("abc")}} {
		given := bytes.Clone(x.b)
		v, _ := Decode(given, x.f)
		if !bytes.Equal(given, x.b) {
			t.Errorf("Decode wrote into what it was given: %v", given)
		}
		clear(given)
		one, _ := Encode(v, x.f)
		if !bytes.Equal(one, x.b) {
			t.Errorf("the value went with the bytes: %v", one)
		}
		clear(one[:cap(one)])
		if two, _ := Encode(v, x.f); !bytes.Equal(two, x.b) {
			t.Errorf("the value went with its bytes: %v", two)
		}
	}
}

// mayCast is what the document says of two kinds, written out pair by pair.
func mayCast(from, to int) bool {
	lists := map[int][]int{
		api.U8:    {api.U8, api.U16, api.U32, api.U64, api.I16, api.I32, api.I64, api.F64},
		api.U16:   {api.U16, api.U32, api.U64, api.I32, api.I64, api.F64},
		api.U32:   {api.U32, api.U64, api.I64, api.F64},
		api.U64:   {api.U64, api.F64},
		api.I8:    {api.I8, api.I16, api.I32, api.I64, api.F64},
		api.I16:   {api.I16, api.I32, api.I64, api.F64},
		api.I32:   {api.I32, api.I64, api.F64},
		api.I64:   {api.I64, api.F64},
		api.Bool:  {api.Bool, api.U8, api.U16, api.U32, api.U64, api.I16, api.I32, api.I64},
		api.F64:   {api.F64, api.I64},
		api.Ref:   {api.Ref},
		api.Bytes: {api.Bytes},
	}
	for _, kind := range lists[from] {
		if kind == to {
			return true
		}
	}
	return false
}

func TestP5_3_CastsOfEachPair(t *testing.T) {
	for _, from := range rightFields() {
		for _, to := range rightFields() {
			want := mayCast(from.Kind, to.Kind)
			if got := Casts(from, to); got != want {
				t.Errorf("Casts(%v, %v) is %v", from, to, got)
			}
			v, e := Cast(Zero(from), from, to)
			if want && (e != api.OK || v != Zero(to)) || !want && (e != api.ErrKindCast || v != (api.Value{})) {
				t.Errorf("Cast of the zero of %v as %v is %v, %d", from, to, v, e)
			}
		}
	}
}

func TestP5_3_CastsOfWrongFields(t *testing.T) {
	for _, wrong := range wrongFields() {
		for _, f := range append(rightFields(), wrong) {
			if Casts(wrong, f) || Casts(f, wrong) {
				t.Errorf("Casts of %v and %v", wrong, f)
			}
			if v, e := Cast(api.Value{Kind: wrong.Kind}, wrong, f); e != api.ErrKindForm || v != (api.Value{}) {
				t.Errorf("Cast from %v as %v is %v, %d", wrong, f, v, e)
			}
		}
		for _, f := range rightFields() {
			if v, e := Cast(Zero(f), f, wrong); e != api.ErrKindCast || v != (api.Value{}) {
				t.Errorf("Cast from %v as %v is %v, %d", f, wrong, v, e)
			}
		}
	}
}

func TestP5_3_CastTellsFormFirst(t *testing.T) {
	for _, to := range append(rightFields(), wrongFields()...) {
		for _, v := range []api.Value{{}, {Kind: api.U8, Bits: 256}, {Kind: api.U8, Text: "a"}, {Kind: api.U16}} {
			if got, e := Cast(v, of(api.U8), to); e != api.ErrKindForm || got != (api.Value{}) {
				t.Errorf("Cast(%v) from U8 as %v is %v, %d", v, to, got, e)
			}
		}
	}
}

// wholeOf is what the document says of Whole, by numbers of any size.
func wholeOf(bits uint64) *big.Int {
	x := math.Float64frombits(bits)
	least, top := big.NewInt(math.MinInt64), big.NewInt(math.MaxInt64)
	switch {
	case x != x:
		return new(big.Int)
	case x > math.MaxFloat64:
		return top
	case x < -math.MaxFloat64:
		return least
	}
	n, _ := new(big.Float).SetFloat64(x).Int(nil)
	if n.Cmp(top) > 0 {
		return top
	}
	if n.Cmp(least) < 0 {
		return least
	}
	return n
}

// floatOf is the float64 next to a number, by numbers of any size.
func floatOf(n *big.Int) uint64 {
	f := new(big.Float).SetPrec(53).SetMode(big.ToNearestEven).SetInt(n)
	x, _ := f.Float64()
	return math.Float64bits(x)
}

func TestP5_3_CastOfEachPattern(t *testing.T) {
	for _, r := range rows() {
		for _, s := range rows() {
			if !mayCast(r.kind, s.kind) {
				continue
			}
			for _, bits := range patterns() {
				if !r.has(bits) {
					continue
				}
				want := bits
				if r.kind != s.kind && s.kind == api.F64 {
					want = floatOf(r.meant(bits))
				} else if r.kind != s.kind && r.kind == api.F64 {
					want = uint64(wholeOf(bits).Int64())
				}
				v, e := Cast(api.Value{Kind: r.kind, Bits: bits}, of(r.kind), of(s.kind))
				if e != api.OK || v != (api.Value{Kind: s.kind, Bits: want}) || !Right(v, of(s.kind)) {
					t.Errorf("Cast of kind %d, bits %x as kind %d is %v, %d, want %x", r.kind, bits, s.kind, v, e, want)
				}
			}
		}
	}
}

func TestP5_3_CastOfBytes(t *testing.T) {
	full := strings.Repeat("abcdefg\xff", 8)
	for have := 1; have <= 64; have++ {
		for want := 1; want <= 64; want++ {
			s := (full[:have] + strings.Repeat("\x00", 64))[:want]
			v, e := Cast(api.Value{Kind: api.Bytes, Text: full[:have]}, text(have), text(want))
			if e != api.OK || v != (api.Value{Kind: api.Bytes, Text: s}) {
				t.Errorf("Cast of %d bytes as %d is %v, %d", have, want, v, e)
			}
		}
	}
}

func TestP5_3_FloatTiesToEven(t *testing.T) {
	for _, x := range []struct {
		kind int
		bits uint64
		want float64
	}{
		{api.U64, 1<<53 + 1, 1 << 53},
		{api.U64, 1<<53 + 3, 1<<53 + 4},
		{api.U64, 1<<63 + 1<<10, 1 << 63},
		{api.U64, 1<<63 + 1<<10 + 1, 1<<63 + 1<<11},
		{api.U64, 1<<63 + 3<<10, 1<<63 + 1<<12},
		{api.U64, 1<<64 - 1, 1 << 64},
		{api.I64, 1<<53 + 1, 1 << 53},
		{api.I64, 1<<63 - 1, 1 << 63},
		{api.I64, 1 << 63, -1 << 63},
		{api.I64, 1<<64 - (1<<53 + 1), -1 << 53},
		{api.I64, 1<<64 - (1<<53 + 3), -(1<<53 + 4)},
		{api.I8, 1<<64 - 128, -128},
		{api.U8, 255, 255},
	} {
		v, e := Cast(api.Value{Kind: x.kind, Bits: x.bits}, of(x.kind), of(api.F64))
		if e != api.OK || v != (api.Value{Kind: api.F64, Bits: math.Float64bits(x.want)}) {
			t.Errorf("Cast of kind %d, bits %x as F64 is %v, %d, want %v", x.kind, x.bits, v, e, x.want)
		}
	}
}

func TestP5_3_Whole(t *testing.T) {
	for _, x := range []struct {
		x    float64
		want int64
	}{
		{2.9, 2}, {-2.9, -2}, {0.5, 0}, {-0.5, 0}, {math.Copysign(0, -1), 0}, {math.NaN(), 0},
		{1e300, math.MaxInt64}, {-1e300, math.MinInt64},
		{math.Inf(1), math.MaxInt64}, {math.Inf(-1), math.MinInt64},
		{1 << 63, math.MaxInt64}, {-1 << 63, math.MinInt64},
		{math.Nextafter(1<<63, 0), 1<<63 - 1<<10}, {math.Nextafter(-1<<63, 0), -1<<63 + 1<<10},
		{math.Nextafter(-1<<63, math.Inf(-1)), math.MinInt64},
		{math.Nextafter(1, 0), 0}, {math.Nextafter(-1, 0), 0},
	} {
		if n := Whole(math.Float64bits(x.x)); n != x.want {
			t.Errorf("Whole of %v is %d, want %d", x.x, n, x.want)
		}
	}
	for _, bits := range patterns() {
		if n, want := Whole(bits), wholeOf(bits); want.Cmp(big.NewInt(n)) != 0 {
			t.Errorf("Whole(%x) is %d, want %v", bits, n, want)
		}
	}
	// Bits of all that is no number, whatever its sign and its rest.
	for _, bits := range []uint64{0x7ff0000000000001, 0xfff0000000000001, 0x7ff8000000000000, 0xfff8000000000000, 1<<64 - 1, 1<<63 - 1} {
		if n := Whole(bits); n != 0 {
			t.Errorf("Whole(%x) is %d, want 0", bits, n)
		}
	}
}

func TestP5_4_DecodeOfEncodeIsTheValue(t *testing.T) {
	for _, r := range rows() {
		for _, bits := range patterns() {
			v := api.Value{Kind: r.kind, Bits: bits}
			b, e := Encode(v, of(r.kind))
			if !r.has(bits) {
				continue
			}
			if e != api.OK || len(b) != r.size {
				t.Errorf("Encode(%v) is %v, %d", v, b, e)
			}
			if got, e := Decode(b, of(r.kind)); e != api.OK || got != v {
				t.Errorf("Decode(Encode(%v)) is %v, %d", v, got, e)
			}
		}
	}
	for long := 1; long <= 64; long++ {
		v := api.Value{Kind: api.Bytes, Text: strings.Repeat("\x80\x00z", 22)[:long]}
		b, _ := Encode(v, text(long))
		if got, e := Decode(b, text(long)); e != api.OK || got != v {
			t.Errorf("Decode(Encode(%v)) is %v, %d", v, got, e)
		}
	}
}

func TestP5_4_CastOfNumbersIsTheSameNumber(t *testing.T) {
	for _, r := range rows()[:9] {
		for _, s := range rows()[:9] {
			for _, bits := range patterns() {
				v, e := Cast(api.Value{Kind: r.kind, Bits: bits}, of(r.kind), of(s.kind))
				if e == api.OK && s.meant(v.Bits).Cmp(r.meant(bits)) != 0 {
					t.Errorf("%v of kind %d is %v of kind %d", r.meant(bits), r.kind, s.meant(v.Bits), s.kind)
				}
			}
		}
	}
}

func TestP5_4_WholeOfWholeIsThat(t *testing.T) {
	for _, n := range []int64{0, 1, 2, 3, 127, 128, 255, 256, 65535, 1<<31 - 1, 1 << 31, 1 << 32, 1<<52 + 1, 1<<53 - 1, 1 << 53} {
		for _, n := range []int64{n, -n} {
			if got := Whole(math.Float64bits(float64(n))); got != n {
				t.Errorf("Whole of %d is %d", n, got)
			}
			v, _ := Cast(api.Value{Kind: api.I64, Bits: uint64(n)}, of(api.I64), of(api.F64))
			if back, e := Cast(v, of(api.F64), of(api.I64)); e != api.OK || int64(back.Bits) != n {
				t.Errorf("%d as F64, and back, is %v, %d", n, back, e)
			}
		}
	}
}
