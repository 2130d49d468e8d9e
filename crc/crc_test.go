package crc

import (
	"bytes"
	"math"
	"testing"
)

// pattern is some bytes with no rule that a sum might be blind to.
func pattern(long int) []byte {
	b := make([]byte, long)
	n := uint32(7)
	for i := range b {
		n = n*1664525 + 1013904223
		b[i] = byte(n >> 24)
	}
	return b
}

// remainder is the sum as the rest of a division: all bits of b, 16 bits 0 behind them, by the polynomial of 17 bits.
// What the register starts with is combined with the first 16 of these bits.
func remainder(first uint16, b []byte) int {
	bits := make([]bool, 8*len(b)+16)
	for i := range 8 * len(b) {
		bits[i] = b[i/8]>>(7-i%8)&1 == 1
	}
	for i := range 16 {
		bits[i] = bits[i] != (first>>(15-i)&1 == 1)
	}
	for i := range 8 * len(b) {
		if !bits[i] {
			continue
		}
		for _, power := range []int{16, 12, 5, 0} {
			at := i + 16 - power
			bits[at] = !bits[at]
		}
	}
	rest := 0
	for _, bit := range bits[8*len(b):] {
		rest <<= 1
		if bit {
			rest++
		}
	}
	return rest
}

func starts() []int {
	return []int{0, 1, 0x1021, 0x7fff, 0x8000, 0xabcd, 0xffff,
		0x10000, 0x10005, 0xff8000, 1 << 32, 1<<32 + 77, -1, -2, -0x8000, -0x10000, math.MaxInt, math.MinInt, math.MinInt + 9}
}

// roomy has room behind its bytes, which belongs to whoever holds all of it.
func roomy(b []byte) (all, part []byte) {
	all = append(bytes.Clone(b), 11, 22, 33, 44, 55, 66, 77, 88)
	return all, all[:len(b)]
}

func spoil(b []byte) {
	b = b[:cap(b)]
	for i := range b {
		b[i] ^= 0xff
	}
}

func TestP2_1_SumOfKnownTexts(t *testing.T) {
	for text, want := range map[string]int{
		"":                     0,
		"123456789":            0x31c3,
		"A":                    0x58e5,
		"\x01":                 0x1021,
		"\x80":                 0x9188,
		"\xff":                 0x1ef0,
		"\x00":                 0,
		"\x00\x00\x00\x00":     0,
		"\x00\x01":             0x1021,
		"\x01\x00":             0x3331,
		"123456789\x31\xc3":    0,
		"\x00\x00123456789":    0x31c3,
		"\x01\x10\x21\x00":     0,
		"\x00\x01\x10\x21":     0,
		"\x00\x00\x00\x01\x00": 0x3331,
	} {
		if sum := Sum([]byte(text)); sum != want {
			t.Errorf("Sum(%q) is %x, want %x", text, sum, want)
		}
		if sum := More(0, []byte(text)); sum != want {
			t.Errorf("More(0, %q) is %x, want %x", text, sum, want)
		}
	}
}

func TestP2_1_SumOfNoParts(t *testing.T) {
	if sum := Sum(); sum != 0 {
		t.Errorf("Sum() is %x", sum)
	}
	if sum := Sum(nil); sum != 0 {
		t.Errorf("Sum(none) is %x", sum)
	}
	if sum := Sum(nil, []byte{}, nil); sum != 0 {
		t.Errorf("Sum(none, none, none) is %x", sum)
	}
	if sum := Sum([]byte{1}, nil); sum != 0x1021 {
		t.Errorf("Sum(01, none) is %x", sum)
	}
	var parts [][]byte
	if sum := Sum(parts...); sum != 0 {
		t.Errorf("Sum of a list of no parts is %x", sum)
	}
}

func TestP2_1_MoreIsTheRestOfADivision(t *testing.T) {
	for one := range 256 {
		b := []byte{byte(one)}
		if sum, want := More(0, b), remainder(0, b); sum != want {
			t.Errorf("More(0, %x) is %x, want %x", b, sum, want)
		}
	}
	for _, start := range starts() {
		for long := range 70 {
			b := pattern(long)
			if sum, want := More(start, b), remainder(uint16(start), b); sum != want {
				t.Errorf("More(%x, %d bytes) is %x, want %x", start, long, sum, want)
			}
		}
	}
}

func TestP2_1_MoreTakesTheLowest16Bits(t *testing.T) {
	for _, start := range starts() {
		low := start & 0xffff
		if sum := More(start, nil); sum != low {
			t.Errorf("More(%x, none) is %x, want %x", start, sum, low)
		}
		for _, b := range [][]byte{{}, {0}, {255}, pattern(9)} {
			if sum, want := More(start, b), More(low, b); sum != want || sum < 0 || sum > 0xffff {
				t.Errorf("More(%x, %x) is %x, want %x", start, b, sum, want)
			}
		}
	}
}

func TestP2_1_GivenBytesStay(t *testing.T) {
	b := pattern(40)
	Sum(b, b[3:])
	More(5, b)
	if !bytes.Equal(b, pattern(40)) {
		t.Error("Sum or More wrote into what it was given")
	}
}

func TestP2_2_SealPutsTheSumBehind(t *testing.T) {
	for text, want := range map[string]string{
		"":          "\x00\x00",
		"\x00":      "\x00\x00\x00",
		"\x01":      "\x01\x21\x10",
		"123456789": "123456789\xc3\x31",
	} {
		if got := Seal([]byte(text)); string(got) != want {
			t.Errorf("Seal(%q) is %q, want %q", text, got, want)
		}
	}
	if got := Seal(nil); string(got) != "\x00\x00" {
		t.Errorf("Seal(none) is %q", got)
	}
}

func TestP2_2_SealHasItsOwnBytes(t *testing.T) {
	for _, long := range []int{0, 1, 2, 30} {
		all, b := roomy(pattern(long))
		was := bytes.Clone(all)
		got := Seal(b)
		if !bytes.Equal(all, was) {
			t.Errorf("Seal of %d bytes wrote into what it was given", long)
		}
		spoil(got)
		if !bytes.Equal(all, was) {
			t.Errorf("what Seal of %d bytes answers shares bytes with what it was given", long)
		}
	}
}

func TestP2_2_OpenTakesTheSumOff(t *testing.T) {
	for sealed, want := range map[string]string{
		"\x00\x00":          "",
		"\x00\x00\x00":      "\x00",
		"\x01\x21\x10":      "\x01",
		"123456789\xc3\x31": "123456789",
	} {
		if got, is := Open([]byte(sealed)); !is || string(got) != want {
			t.Errorf("Open(%q) is %q, %v, want %q", sealed, got, is, want)
		}
	}
}

func TestP2_2_OpenRefuses(t *testing.T) {
	for _, text := range []string{
		"", "\x00", "\x01", "\xff", // fewer than two
		"\x00\x01", "\x01\x00", "\xff\xff", // of nothing the sum is 0
		"123456789", "123456789\x31\xc3", "123456789\xc3", "123456789\x31",
		"123456789\xc3\x31\x00", "\x00123456789\xc3\x32", "12345678\xc3\x31", "\x01\x10\x21",
	} {
		if got, is := Open([]byte(text)); is || len(got) != 0 {
			t.Errorf("Open(%q) is %q, %v", text, got, is)
		}
	}
	if got, is := Open(nil); is || len(got) != 0 {
		t.Errorf("Open(none) is %q, %v", got, is)
	}
}

func TestP2_2_OpenTakesNoOtherSum(t *testing.T) {
	b := []byte("123456789")
	for sum := range 1 << 16 {
		got, is := Open(append(bytes.Clone(b), byte(sum), byte(sum>>8)))
		if is != (sum == 0x31c3) || !is && len(got) != 0 {
			t.Fatalf("Open with the sum %x is %q, %v", sum, got, is)
		}
	}
}

func TestP2_2_OpenHasItsOwnBytes(t *testing.T) {
	for _, long := range []int{0, 1, 2, 30} {
		all, sealed := roomy(Seal(pattern(long)))
		was := bytes.Clone(all)
		got, is := Open(sealed)
		if !is || !bytes.Equal(all, was) {
			t.Errorf("Open of %d bytes wrote into what it was given, or is %v", long, is)
		}
		spoil(got)
		if !bytes.Equal(all, was) {
			t.Errorf("what Open of %d bytes answers shares bytes with what it was given", long)
		}
	}
}

func TestP2_2_OpenSeesNoRoomBehind(t *testing.T) {
	sealed := Seal(pattern(5))
	if got, is := Open(sealed[:6]); is || len(got) != 0 {
		t.Errorf("Open read behind the end: %q", got)
	}
}

func TestP2_3_PartsAreNotSeen(t *testing.T) {
	b := pattern(24)
	want := Sum(b)
	for i := range len(b) + 1 {
		for j := i; j <= len(b); j++ {
			if sum := Sum(b[:i], b[i:j], b[j:]); sum != want {
				t.Errorf("Sum of parts that end at %d and %d is %x, want %x", i, j, sum, want)
			}
			if sum := More(More(More(0, b[:i]), b[i:j]), b[j:]); sum != want {
				t.Errorf("More of parts that end at %d and %d is %x, want %x", i, j, sum, want)
			}
			if sum := More(Sum(b[:i], b[i:j]), b[j:]); sum != want {
				t.Errorf("More of the sum of parts that end at %d and %d is %x, want %x", i, j, sum, want)
			}
		}
	}
	var single [][]byte
	for i := range b {
		single = append(single, b[i:i+1], nil)
	}
	if sum := Sum(single...); sum != want {
		t.Errorf("Sum byte by byte is %x, want %x", sum, want)
	}
}

func TestP2_3_OpenOfSealIsThat(t *testing.T) {
	for long := range 300 {
		b := pattern(long)
		if got, is := Open(Seal(b)); !is || !bytes.Equal(got, b) {
			t.Errorf("Open of Seal of %d bytes is %x, %v", long, got, is)
		}
		twice, is := Open(Seal(Seal(b)))
		if got, again := Open(twice); !is || !again || !bytes.Equal(got, b) {
			t.Errorf("Open of Open of Seal of Seal of %d bytes is %x, %v, %v", long, got, is, again)
		}
	}
}

func TestP2_3_AnotherByteIsAnotherSum(t *testing.T) {
	for _, b := range [][]byte{{0}, {255}, make([]byte, 9), pattern(20)} {
		sum := Sum(b)
		for i := range b {
			for by := 1; by < 256; by++ {
				other := bytes.Clone(b)
				other[i] ^= byte(by)
				if Sum(other) == sum {
					t.Errorf("%x and %x have one sum", b, other)
				}
			}
		}
	}
}

func TestP2_3_OpenRefusesAnotherByte(t *testing.T) {
	sealed := Seal(pattern(20))
	for i := range sealed {
		for by := 1; by < 256; by++ {
			other := bytes.Clone(sealed)
			other[i] ^= byte(by)
			if got, is := Open(other); is || len(got) != 0 {
				t.Errorf("Open of %x is %x, %v", other, got, is)
			}
		}
	}
}
