package word

import (
	"bytes"
	"math"
	"slices"
	"testing"

	"ecdysis/api"
)

// The numbers at which widths and signs begin and end, with their neighbours, and some between.
func numbers() []uint64 {
	list := []uint64{0x0102030405060708, 0xf0e1d2c3b4a59687, 0xff00, 0x00ff00ff00ff00ff}
	for bit := range 64 {
		n := uint64(1) << bit
		list = append(list, n-1, n, n+1, -n, -n-1, -n+1)
	}
	return list
}

var rightWidths = []int{1, 2, 4, 8}

var wrongWidths = []int{math.MinInt, -8, -4, -2, -1, 0, 3, 5, 6, 7, 9, 16, 32, 64, 256, 1 << 32, math.MaxInt}

// roomy has room behind its bytes, which belongs to whoever holds all of it.
func roomy() (all, b []byte) {
	all = []byte{10, 20, 30, 40, 50, 60, 70, 80, 90, 100, 110, 120, 130, 140, 150, 160, 170, 180, 190, 200}
	return all, all[:10]
}

func spoil(b []byte) {
	b = b[:cap(b)]
	for i := range b {
		b[i] ^= 0xff
	}
}

func TestP1_1_Size(t *testing.T) {
	want := map[int]int{
		api.U8: 1, api.I8: 1, api.Bool: 1,
		api.U16: 2, api.I16: 2,
		api.U32: 4, api.I32: 4,
		api.U64: 8, api.I64: 8, api.F64: 8, api.Ref: 8,
		api.Bytes: 0,
	}
	for kind := -300; kind <= 300; kind++ {
		if size := Size(kind); size != want[kind] {
			t.Errorf("Size(%d) is %d, want %d", kind, size, want[kind])
		}
	}
	for _, kind := range []int{math.MinInt, math.MaxInt, 1 << 32, 1<<32 + api.U8} {
		if size := Size(kind); size != 0 {
			t.Errorf("Size(%d) is %d, want 0", kind, size)
		}
	}
}

func TestP1_1_PutLaysLowestByteFirst(t *testing.T) {
	for _, x := range []struct {
		width int
		n     uint64
		want  []byte
	}{
		{1, 0, []byte{0}},
		{1, 255, []byte{255}},
		{2, 258, []byte{2, 1}},
		{2, 1, []byte{1, 0}},
		{2, 65535, []byte{255, 255}},
		{4, 0x04030201, []byte{1, 2, 3, 4}},
		{4, 1<<32 - 1, []byte{255, 255, 255, 255}},
		{8, 0x0807060504030201, []byte{1, 2, 3, 4, 5, 6, 7, 8}},
		{8, 1<<64 - 1, []byte{255, 255, 255, 255, 255, 255, 255, 255}},
	} {
		for _, head := range [][]byte{nil, {}, {7}, {7, 0, 9}} {
			got, is := Put(head, x.width, x.n)
			want := append(bytes.Clone(head), x.want...)
			if !is || !bytes.Equal(got, want) {
				t.Errorf("Put(%v, %d, %x) is %v, %v, want %v", head, x.width, x.n, got, is, want)
			}
		}
	}
}

func TestP1_1_PutRefuses(t *testing.T) {
	for _, x := range []struct {
		width int
		n     uint64
	}{{1, 256}, {1, 1 << 63}, {2, 65536}, {2, 1 << 40}, {4, 1 << 32}, {4, 1<<64 - 1}} {
		if got, is := Put([]byte{5, 6}, x.width, x.n); is || !bytes.Equal(got, []byte{5, 6}) {
			t.Errorf("Put(5 6, %d, %x) is %v, %v", x.width, x.n, got, is)
		}
	}
	for _, width := range wrongWidths {
		if got, is := Put([]byte{5, 6}, width, 0); is || !bytes.Equal(got, []byte{5, 6}) {
			t.Errorf("Put(5 6, %d, 0) is %v, %v", width, got, is)
		}
		if got, is := Put(nil, width, 1); is || len(got) != 0 {
			t.Errorf("Put(none, %d, 1) is %v, %v", width, got, is)
		}
	}
}

func TestP1_1_PutAnswersBytesOfItsOwn(t *testing.T) {
	for _, width := range []int{1, 2, 4, 8, 3} {
		all, b := roomy()
		was, _ := roomy()
		got, _ := Put(b, width, 77)
		if !bytes.Equal(all, was) {
			t.Errorf("Put of width %d wrote into what it was given: %v", width, all)
		}
		spoil(got)
		if !bytes.Equal(all, was) {
			t.Errorf("what Put of width %d answers shares bytes with what it was given", width)
		}
	}
}

func TestP1_1_Get(t *testing.T) {
	b := []byte{1, 2, 3, 4, 5, 6, 7, 8, 255}
	for _, x := range []struct {
		at, width int
		want      uint64
		is        bool
	}{
		{0, 1, 1, true}, {8, 1, 255, true}, {9, 1, 0, false},
		{0, 2, 0x0201, true}, {7, 2, 0xff08, true}, {8, 2, 0, false},
		{0, 4, 0x04030201, true}, {5, 4, 0xff080706, true}, {6, 4, 0, false},
		{0, 8, 0x0807060504030201, true}, {1, 8, 0xff08070605040302, true}, {2, 8, 0, false},
		{-1, 1, 0, false}, {-1, 2, 0, false}, {-8, 8, 0, false},
		{10, 1, 0, false}, {1 << 32, 1, 0, false},
		{math.MaxInt, 1, 0, false}, {math.MaxInt, 8, 0, false}, {math.MaxInt - 7, 8, 0, false},
		{math.MinInt, 1, 0, false}, {math.MinInt, 8, 0, false},
	} {
		if n, is := Get(b, x.at, x.width); n != x.want || is != x.is {
			t.Errorf("Get(b, %d, %d) is %x, %v, want %x, %v", x.at, x.width, n, is, x.want, x.is)
		}
	}
	for _, width := range wrongWidths {
		for _, at := range []int{math.MinInt, -1, 0, 1, 9, math.MaxInt} {
			if n, is := Get(b, at, width); n != 0 || is {
				t.Errorf("Get(b, %d, %d) is %x, %v", at, width, n, is)
			}
		}
	}
	for _, width := range rightWidths {
		if n, is := Get(nil, 0, width); n != 0 || is {
			t.Errorf("Get(none, 0, %d) is %x, %v", width, n, is)
		}
	}
}

func TestP1_1_GetSeesNoRoomBehind(t *testing.T) {
	_, b := roomy()
	if n, is := Get(b, 9, 2); n != 0 || is {
		t.Errorf("Get read behind the end: %x, %v", n, is)
	}
}

func TestP1_1_Set(t *testing.T) {
	for _, x := range []struct {
		at, width int
		n         uint64
		want      []byte
	}{
		{0, 1, 255, []byte{255, 2, 3, 4, 5, 6, 7, 8, 9}},
		{8, 1, 0, []byte{1, 2, 3, 4, 5, 6, 7, 8, 0}},
		{3, 2, 258, []byte{1, 2, 3, 2, 1, 6, 7, 8, 9}},
		{5, 4, 1<<32 - 1, []byte{1, 2, 3, 4, 5, 255, 255, 255, 255}},
		{1, 8, 1 << 63, []byte{1, 0, 0, 0, 0, 0, 0, 0, 128}},
	} {
		got, is := Set([]byte{1, 2, 3, 4, 5, 6, 7, 8, 9}, x.at, x.width, x.n)
		if !is || !bytes.Equal(got, x.want) {
			t.Errorf("Set(b, %d, %d, %x) is %v, %v, want %v", x.at, x.width, x.n, got, is, x.want)
		}
	}
}

func TestP1_1_SetRefusesWherePutOrGetDoes(t *testing.T) {
	b := []byte{1, 2, 3, 4, 5, 6, 7, 8, 9}
	places := []int{math.MinInt, -8, -1, 0, 1, 2, 5, 6, 7, 8, 9, 10, math.MaxInt - 7, math.MaxInt}
	counts := []uint64{0, 255, 256, 65535, 65536, 1<<32 - 1, 1 << 32, 1<<64 - 1}
	for _, width := range slices.Concat(rightWidths, wrongWidths) {
		for _, at := range places {
			for _, n := range counts {
				_, put := Put(b, width, n)
				_, get := Get(b, at, width)
				got, is := Set(b, at, width, n)
				if is != (put && get) || !is && len(got) != 0 {
					t.Errorf("Set(b, %d, %d, %x) is %v, %v; Put is %v, Get is %v", at, width, n, got, is, put, get)
				}
			}
		}
	}
}

func TestP1_1_SetAnswersBytesOfItsOwn(t *testing.T) {
	for _, width := range rightWidths {
		all, b := roomy()
		was, _ := roomy()
		got, is := Set(b, 1, width, 77)
		if !is || !bytes.Equal(all, was) {
			t.Errorf("Set of width %d wrote into what it was given: %v, %v", width, all, is)
		}
		spoil(got)
		if !bytes.Equal(all, was) {
			t.Errorf("what Set of width %d answers shares bytes with what it was given", width)
		}
	}
}

func TestP1_2_Sign(t *testing.T) {
	for _, n := range numbers() {
		for width, want := range map[int]uint64{
			1: uint64(int64(int8(n))),
			2: uint64(int64(int16(n))),
			4: uint64(int64(int32(n))),
			8: n,
		} {
			if got := Sign(n, width); got != want {
				t.Errorf("Sign(%x, %d) is %x, want %x", n, width, got, want)
			}
		}
		for _, width := range wrongWidths {
			if got := Sign(n, width); got != n {
				t.Errorf("Sign(%x, %d) is %x, want it as it is", n, width, got)
			}
		}
	}
}

func TestP1_2_Fits(t *testing.T) {
	for _, n := range numbers() {
		for _, x := range []struct {
			width        int
			bare, signed bool
		}{
			{1, n <= math.MaxUint8, n == uint64(int64(int8(n)))},
			{2, n <= math.MaxUint16, n == uint64(int64(int16(n)))},
			{4, n <= math.MaxUint32, n == uint64(int64(int32(n)))},
			{8, true, true},
		} {
			if got := Fits(n, x.width, false); got != x.bare {
				t.Errorf("Fits(%x, %d, false) is %v", n, x.width, got)
			}
			if got := Fits(n, x.width, true); got != x.signed {
				t.Errorf("Fits(%x, %d, true) is %v", n, x.width, got)
			}
		}
		for _, width := range wrongWidths {
			if Fits(n, width, false) || Fits(n, width, true) {
				t.Errorf("Fits(%x, %d): no width, but it fits", n, width)
			}
		}
	}
}

func TestP1_2_SignAndFitsOfTheExample(t *testing.T) {
	if n := Sign(255, 1); n != math.MaxUint64 {
		t.Errorf("Sign(255, 1) is %x, want all bits", n)
	}
	if Fits(255, 1, true) {
		t.Error("Fits(255, 1, true) is true")
	}
}

func TestP1_2_Pad(t *testing.T) {
	for long := range 4*api.Word + 2 {
		b := bytes.Repeat([]byte{9}, long)
		got := Pad(b)
		least := 0
		for least < long {
			least += api.Word
		}
		if len(got) != least {
			t.Errorf("Pad of %d bytes has %d, want %d", long, len(got), least)
			continue
		}
		if !bytes.Equal(got[:long], b) || !bytes.Equal(got[long:], make([]byte, least-long)) {
			t.Errorf("Pad of %d bytes is %v", long, got)
		}
	}
	if got := Pad(nil); len(got) != 0 {
		t.Errorf("Pad(none) is %v", got)
	}
}

func TestP1_2_PadAnswersBytesOfItsOwn(t *testing.T) {
	for _, long := range []int{0, 1, 7, 8, 10, 16} {
		all, _ := roomy()
		was, _ := roomy()
		got := Pad(all[:long])
		if !bytes.Equal(all, was) {
			t.Errorf("Pad of %d bytes wrote into what it was given: %v", long, all)
		}
		spoil(got)
		if !bytes.Equal(all, was) {
			t.Errorf("what Pad of %d bytes answers shares bytes with what it was given", long)
		}
	}
}

func TestP1_3_GetOfPutIsThat(t *testing.T) {
	for _, width := range rightWidths {
		for _, n := range numbers() {
			for _, head := range [][]byte{nil, {1, 2, 3}} {
				b, put := Put(head, width, n)
				if put != Fits(n, width, false) {
					t.Errorf("Put(b, %d, %x) is %v", width, n, put)
				}
				if !put {
					continue
				}
				if got, is := Get(b, len(head), width); !is || got != n {
					t.Errorf("Get of Put(b, %d, %x) is %x, %v", width, n, got, is)
				}
			}
		}
	}
}

func TestP1_3_SetChangesNoOtherByte(t *testing.T) {
	_, b := roomy()
	for _, width := range rightWidths {
		for at := 0; at+width <= len(b); at++ {
			n := uint64(0xfedcba9876543210) >> (64 - 8*width)
			got, is := Set(b, at, width, n)
			if !is || len(got) != len(b) {
				t.Errorf("Set(b, %d, %d, %x) is %v, %v", at, width, n, got, is)
				continue
			}
			if back, is := Get(got, at, width); !is || back != n {
				t.Errorf("Get of Set(b, %d, %d, %x) is %x, %v", at, width, n, back, is)
			}
			if !bytes.Equal(got[:at], b[:at]) || !bytes.Equal(got[at+width:], b[at+width:]) {
				t.Errorf("Set(b, %d, %d, %x) changed another byte: %v", at, width, n, got)
			}
		}
	}
}

func TestP1_3_SignOfSignIsSign(t *testing.T) {
	for _, width := range slices.Concat(rightWidths, wrongWidths) {
		for _, n := range numbers() {
			once := Sign(n, width)
			if twice := Sign(once, width); twice != once {
				t.Errorf("Sign of Sign(%x, %d) is %x, want %x", n, width, twice, once)
			}
		}
	}
}
