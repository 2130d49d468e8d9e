package pmem

import (
	"bytes"
	"math"
	"slices"
	"testing"

	"ecdysis/api"
)

// numbers makes what tells one number behind the other, always the same ones, each below its argument.
func numbers(seed uint32) func(below int) int {
	return func(below int) int {
		seed = seed*1664525 + 1013904223
		return int(seed>>8) % below
	}
}

func pattern(long int) []byte {
	next := numbers(7)
	b := make([]byte, long)
	for i := range b {
		b[i] = byte(1 + next(255))
	}
	return b
}

func fresh(t *testing.T, words int) *Device {
	t.Helper()
	d, e := New(words)
	if e != api.OK || d == nil {
		t.Fatalf("New(%d): %d", words, e)
	}
	return d
}

func write(t *testing.T, d *Device, at int, text string) {
	t.Helper()
	if e := d.Write(at, []byte(text)); e != api.OK {
		t.Fatalf("Write(%d, %q): %d", at, text, e)
	}
}

func flush(t *testing.T, d *Device, at, long int) {
	t.Helper()
	if e := d.Flush(at, long); e != api.OK {
		t.Fatalf("Flush(%d, %d): %d", at, long, e)
	}
}

func wantLoose(t *testing.T, d *Device, words ...int) {
	t.Helper()
	if got := d.Loose(); !slices.Equal(got, words) {
		t.Errorf("loose are %v, want %v", got, words)
	}
}

func wantBytes(t *testing.T, d *Device, at int, text string) {
	t.Helper()
	b, e := d.Read(at, len(text))
	if e != api.OK || string(b) != text {
		t.Errorf("from %d on stands %q (%d), want %q", at, b, e, text)
	}
}

func spoil(b []byte) {
	b = b[:cap(b)]
	for i := range b {
		b[i] ^= 0xff
	}
}

// reference is a device told the long way round: of each word all that may be said.
type reference struct {
	words []cell
}

type cell struct {
	seen, safe     [8]byte
	loose, flushed bool
}

func (r *reference) touch(at, long int, do func(c *cell, i, in int)) {
	for i := range long {
		do(&r.words[(at+i)/8], i, (at+i)%8)
	}
}

func (r *reference) write(at int, b []byte) {
	r.touch(at, len(b), func(c *cell, i, in int) {
		c.seen[in] = b[i]
		c.loose, c.flushed = true, false
	})
}

func (r *reference) flush(at, long int) {
	r.touch(at, long, func(c *cell, _, _ int) { c.flushed = c.loose })
}

func (r *reference) fence() {
	for i := range r.words {
		if c := &r.words[i]; c.flushed {
			*c = cell{seen: c.seen, safe: c.seen}
		}
	}
}

func (r *reference) crash(keep []int) {
	for i := range r.words {
		c := &r.words[i]
		if c.loose && slices.Contains(keep, i) {
			c.safe = c.seen
		}
		*c = cell{seen: c.safe, safe: c.safe}
	}
}

func (r *reference) loose() []int {
	var list []int
	for i, c := range r.words {
		if c.loose {
			list = append(list, i)
		}
	}
	return list
}

func (r *reference) bytes() []byte {
	var b []byte
	for _, c := range r.words {
		b = append(b, c.seen[:]...)
	}
	return b
}

// step does one and the same to both.
func step(next func(int) int, d *Device, r *reference) {
	long := d.Len()
	at := next(long + 1)
	some := next(min(long-at, 20) + 1)
	switch next(9) {
	case 0, 1, 2, 3:
		b := make([]byte, some)
		for i := range b {
			b[i] = byte(next(3))
		}
		d.Write(at, b)
		r.write(at, b)
	case 4, 5, 6:
		d.Flush(at, some)
		r.flush(at, some)
	case 7:
		d.Fence()
		r.fence()
	case 8:
		if next(3) > 0 {
			return
		}
		var keep []int
		for range next(6) {
			keep = append(keep, next(long/8+4)-2)
		}
		d.Crash(keep)
		r.crash(keep)
	}
}

func same(d *Device, r *reference) bool {
	return bytes.Equal(d.Bytes(), r.bytes()) && slices.Equal(d.Loose(), r.loose())
}

func TestP3_1_NewIsZeroAndSafe(t *testing.T) {
	for _, words := range []int{0, 1, 2, 7, 8191, api.MaxWords} {
		d := fresh(t, words)
		if d.Len() != 8*words || !bytes.Equal(d.Bytes(), make([]byte, 8*words)) {
			t.Errorf("New(%d) has %d bytes, or not 0", words, d.Len())
		}
		wantLoose(t, d)
		d.Crash(nil)
		if !bytes.Equal(d.Bytes(), make([]byte, 8*words)) {
			t.Errorf("New(%d) was not safe", words)
		}
	}
}

func TestP3_1_NewRefuses(t *testing.T) {
	for _, words := range []int{-1, -8, api.MaxWords + 1, 1 << 40, math.MaxInt, math.MinInt} {
		if d, e := New(words); e != api.ErrArg || d != nil {
			t.Errorf("New(%d) is %v, %d", words, d, e)
		}
	}
}

func TestP3_1_OfHasTheBytes(t *testing.T) {
	for _, words := range []int{0, 1, 2, 7, api.MaxWords} {
		b := pattern(8 * words)
		d, e := Of(b)
		if e != api.OK || d == nil {
			t.Fatalf("Of %d words: %d", words, e)
		}
		if d.Len() != 8*words || !bytes.Equal(d.Bytes(), b) {
			t.Errorf("Of %d words has other bytes", words)
		}
		wantLoose(t, d)
		d.Crash(nil)
		if !bytes.Equal(d.Bytes(), b) {
			t.Errorf("Of %d words was not safe", words)
		}
	}
	if d, e := Of(nil); e != api.OK || d == nil || d.Len() != 0 {
		t.Errorf("Of(none): %d", e)
	}
}

func TestP3_1_OfRefuses(t *testing.T) {
	for _, long := range []int{1, 2, 4, 7, 9, 15, 17, 8*api.MaxWords - 1, 8*api.MaxWords + 1, 8*api.MaxWords + 8, 16 * api.MaxWords} {
		if d, e := Of(make([]byte, long)); e != api.ErrArg || d != nil {
			t.Errorf("Of %d bytes is %v, %d", long, d, e)
		}
	}
}

func TestP3_1_OfKeepsNothingOfItsArgument(t *testing.T) {
	b := pattern(24)
	was := bytes.Clone(b)
	d, _ := Of(b)
	write(t, d, 3, "hello")
	d.Crash(nil)
	write(t, d, 3, "hello")
	if !bytes.Equal(b, was) {
		t.Error("the device wrote into what Of was given")
	}
	d.Crash(nil)
	spoil(b)
	if !bytes.Equal(d.Bytes(), was) {
		t.Error("the device has kept what Of was given")
	}
}

func TestP3_1_BytesAreTheCallersOwn(t *testing.T) {
	b := pattern(16)
	d, _ := Of(b)
	spoil(d.Bytes())
	if !bytes.Equal(d.Bytes(), b) {
		t.Error("to write into what Bytes tells has changed the device")
	}
	told := d.Bytes()
	write(t, d, 0, "other")
	if !bytes.Equal(told, b) {
		t.Error("what Bytes told has changed with the device")
	}
}

func TestP3_1_LooseRises(t *testing.T) {
	d := fresh(t, 300)
	next := numbers(3)
	var want []int
	for range 200 {
		word := next(300)
		write(t, d, 8*word+next(8), "x")
		if at, is := slices.BinarySearch(want, word); !is {
			want = slices.Insert(want, at, word)
		}
		wantLoose(t, d, want...)
	}
}

func TestP3_1_LooseIsTheCallersOwn(t *testing.T) {
	d := fresh(t, 4)
	write(t, d, 8, "abcdefghi")
	told := d.Loose()
	clear(told)
	wantLoose(t, d, 1, 2)
	told = d.Loose()
	d.Crash(nil)
	if !slices.Equal(told, []int{1, 2}) {
		t.Errorf("what Loose told has changed with the device: %v", told)
	}
}

func TestP3_1_CopyIsJustSo(t *testing.T) {
	d := fresh(t, 4)
	write(t, d, 0, "safe")
	flush(t, d, 0, 8)
	d.Fence()
	write(t, d, 0, "SAFE")
	write(t, d, 8, "flushed")
	flush(t, d, 8, 1)
	write(t, d, 24, "loose")
	c := d.Copy()
	if c.Len() != 32 || !bytes.Equal(c.Bytes(), d.Bytes()) {
		t.Error("the copy has other bytes")
	}
	wantLoose(t, c, 0, 1, 3)
	c.Fence()
	wantLoose(t, c, 0, 3)
	c.Crash([]int{3})
	wantBytes(t, c, 0, "safe\x00\x00\x00\x00flushed\x00\x00\x00\x00\x00\x00\x00\x00\x00loose\x00\x00\x00")
	if empty := fresh(t, 0).Copy(); empty.Len() != 0 {
		t.Error("the copy of nothing has bytes")
	}
}

func TestP3_1_CopyIsOfItsOwn(t *testing.T) {
	halfway := func() *Device {
		d := fresh(t, 3)
		write(t, d, 0, "aaaaaaaabbbbbbbb")
		flush(t, d, 8, 8)
		return d
	}
	untouched := func(who string, d *Device) {
		wantBytes(t, d, 0, "aaaaaaaabbbbbbbb\x00\x00\x00\x00\x00\x00\x00\x00")
		wantLoose(t, d, 0, 1)
		d.Fence()
		wantLoose(t, d, 0)
		d.Crash(nil)
		wantBytes(t, d, 0, "\x00\x00\x00\x00\x00\x00\x00\x00bbbbbbbb\x00\x00\x00\x00\x00\x00\x00\x00")
		if t.Failed() {
			t.Fatalf("what was done to the other one is seen in the %s", who)
		}
	}
	for _, do := range []func(d *Device){
		func(d *Device) { d.Write(0, []byte("xxxxxxxxxxxxxxxxxxxxxxxx")) },
		func(d *Device) { d.Flush(0, 24) },
		func(d *Device) { d.Fence() },
		func(d *Device) { d.Crash(nil) },
		func(d *Device) { d.Crash([]int{0, 1, 2}) },
	} {
		d := halfway()
		c := d.Copy()
		do(c)
		untouched("first one", d)
		d = halfway()
		c = d.Copy()
		do(d)
		untouched("copy", c)
	}
}

func TestP3_2_TheExample(t *testing.T) {
	d := fresh(t, 2)
	write(t, d, 6, "abcd")
	wantLoose(t, d, 0, 1)
	flush(t, d, 0, 8)
	d.Fence()
	d.Crash(nil)
	wantBytes(t, d, 6, "ab\x00\x00")
}

// edges are the first byte and how many, on a device of three words, with what all three calls answer.
func edges() []struct {
	at, long int
	e        api.Errno
} {
	return []struct {
		at, long int
		e        api.Errno
	}{
		{0, 0, api.OK}, {0, 24, api.OK}, {23, 1, api.OK}, {24, 0, api.OK}, {5, 0, api.OK}, {8, 16, api.OK},
		{0, 25, api.ErrPmemEnd}, {1, 24, api.ErrPmemEnd}, {23, 2, api.ErrPmemEnd}, {24, 1, api.ErrPmemEnd},
		{25, 0, api.ErrPmemEnd}, {25, 1, api.ErrPmemEnd}, {-1, 0, api.ErrPmemEnd}, {-1, 1, api.ErrPmemEnd},
		{-1, 25, api.ErrPmemEnd}, {-8, 8, api.ErrPmemEnd},
		{math.MaxInt, 0, api.ErrPmemEnd}, {math.MaxInt, 1, api.ErrPmemEnd}, {math.MinInt, 0, api.ErrPmemEnd}, {math.MinInt, 24, api.ErrPmemEnd},
	}
}

func TestP3_2_EndsOfReadAndFlush(t *testing.T) {
	wrong := []struct {
		at, long int
		e        api.Errno
	}{
		{0, math.MaxInt, api.ErrPmemEnd}, {24, math.MaxInt, api.ErrPmemEnd}, {1, math.MaxInt, api.ErrPmemEnd},
		{math.MaxInt, math.MaxInt, api.ErrPmemEnd}, {math.MinInt, math.MaxInt, api.ErrPmemEnd},
		{0, -1, api.ErrArg}, {24, -1, api.ErrArg}, {25, -1, api.ErrArg}, {-1, -1, api.ErrArg},
		{8, -8, api.ErrArg}, {math.MaxInt, -1, api.ErrArg}, {math.MinInt, math.MinInt, api.ErrArg}, {0, math.MinInt, api.ErrArg},
	}
	for _, x := range append(edges(), wrong...) {
		d := fresh(t, 3)
		write(t, d, 0, "abcdefghijklmnopqrstuvwx")
		b, e := d.Read(x.at, x.long)
		if e != x.e || e != api.OK && b != nil || e == api.OK && string(b) != "abcdefghijklmnopqrstuvwx"[x.at:x.at+x.long] {
			t.Errorf("Read(%d, %d) is %q, %d", x.at, x.long, b, e)
		}
		if e := d.Flush(x.at, x.long); e != x.e {
			t.Errorf("Flush(%d, %d) is %d, want %d", x.at, x.long, e, x.e)
		}
		d.Fence()
		if x.e != api.OK && len(d.Loose()) != 3 {
			t.Errorf("Flush(%d, %d) was refused, and has flushed", x.at, x.long)
		}
	}
}

func TestP3_2_EndsOfWrite(t *testing.T) {
	for _, x := range edges() {
		d := fresh(t, 3)
		write(t, d, 0, "a")
		flush(t, d, 0, 1)
		was := d.Bytes()
		if e := d.Write(x.at, bytes.Repeat([]byte{9}, x.long)); e != x.e {
			t.Errorf("Write(%d, %d bytes) is %d, want %d", x.at, x.long, e, x.e)
		}
		if x.e == api.OK {
			continue
		}
		if !bytes.Equal(d.Bytes(), was) || !slices.Equal(d.Loose(), []int{0}) {
			t.Errorf("Write(%d, %d bytes) was refused, and has written", x.at, x.long)
		}
		d.Fence()
		wantLoose(t, d)
	}
}

func TestP3_2_ADeviceOfNothing(t *testing.T) {
	d := fresh(t, 0)
	if e := d.Write(0, nil); e != api.OK {
		t.Errorf("Write: %d", e)
	}
	if b, e := d.Read(0, 0); e != api.OK || len(b) != 0 {
		t.Errorf("Read: %q, %d", b, e)
	}
	if e := d.Flush(0, 0); e != api.OK {
		t.Errorf("Flush: %d", e)
	}
	if e := d.Write(0, []byte{1}); e != api.ErrPmemEnd {
		t.Errorf("Write of one: %d", e)
	}
	if b, e := d.Read(0, 1); e != api.ErrPmemEnd || b != nil {
		t.Errorf("Read of one: %q, %d", b, e)
	}
	if e := d.Flush(0, 1); e != api.ErrPmemEnd {
		t.Errorf("Flush of one: %d", e)
	}
	d.Fence()
	d.Crash([]int{0})
	wantLoose(t, d)
}

func TestP3_2_WriteIsSeenAtOnceAndLoose(t *testing.T) {
	for at := range 33 {
		for long := range 33 - at {
			d := fresh(t, 4)
			text := pattern(long)
			write(t, d, at, string(text))
			want := make([]byte, 32)
			copy(want[at:], text)
			if !bytes.Equal(d.Bytes(), want) {
				t.Errorf("Write(%d, %d bytes) has written otherwise", at, long)
			}
			var loose []int
			for i := at; i < at+long; i++ {
				if word := i / 8; !slices.Contains(loose, word) {
					loose = append(loose, word)
				}
			}
			wantLoose(t, d, loose...)
		}
	}
}

func TestP3_2_WriteOfTheSameIsLoose(t *testing.T) {
	d := fresh(t, 2)
	write(t, d, 9, "\x00")
	wantLoose(t, d, 1)
}

func TestP3_2_WriteOfNothingTouchesNoWord(t *testing.T) {
	d := fresh(t, 2)
	for at := range 17 {
		write(t, d, at, "")
		if e := d.Write(at, nil); e != api.OK {
			t.Errorf("Write(%d, none): %d", at, e)
		}
		wantLoose(t, d)
	}
	write(t, d, 0, "x")
	flush(t, d, 0, 1)
	write(t, d, 4, "")
	d.Fence()
	wantLoose(t, d)
}

func TestP3_2_WriteKeepsNothingOfItsArgument(t *testing.T) {
	d := fresh(t, 2)
	b := []byte("abcdefgh")
	d.Write(4, b)
	spoil(b)
	wantBytes(t, d, 4, "abcdefgh")
	b = []byte("abcdefgh")
	d.Write(4, b)
	d.Write(4, []byte("other"))
	d.Crash(nil)
	if string(b) != "abcdefgh" {
		t.Errorf("the device wrote into what it was given: %q", b)
	}
}

func TestP3_2_ReadIsTheCallersOwn(t *testing.T) {
	d, _ := Of(pattern(24))
	b, _ := d.Read(2, 9)
	spoil(b)
	if !bytes.Equal(d.Bytes(), pattern(24)) {
		t.Error("to write into what Read tells has changed the device")
	}
	b, _ = d.Read(2, 9)
	write(t, d, 0, "xxxxxxxxxxxx")
	if !bytes.Equal(b, pattern(24)[2:11]) {
		t.Error("what Read told has changed with the device")
	}
}

func TestP3_2_FlushedIsLooseUntilTheFence(t *testing.T) {
	d := fresh(t, 3)
	write(t, d, 8, "abcdefgh")
	flush(t, d, 8, 8)
	wantLoose(t, d, 1)
	c := d.Copy()
	c.Crash(nil)
	wantBytes(t, c, 8, "\x00\x00\x00\x00\x00\x00\x00\x00")
	d.Fence()
	wantLoose(t, d)
	d.Crash(nil)
	wantBytes(t, d, 8, "abcdefgh")
}

func TestP3_2_FlushTakesWholeWords(t *testing.T) {
	for at := range 33 {
		for long := range 33 - at {
			d := fresh(t, 4)
			write(t, d, 0, string(pattern(32)))
			flush(t, d, at, long)
			wantLoose(t, d, 0, 1, 2, 3)
			d.Fence()
			var loose []int
			for word := range 4 {
				if long == 0 || at+long <= 8*word || at >= 8*word+8 {
					loose = append(loose, word)
				}
			}
			if got := d.Loose(); !slices.Equal(got, loose) {
				t.Errorf("behind Flush(%d, %d) and Fence loose are %v, want %v", at, long, got, loose)
			}
		}
	}
}

func TestP3_2_FlushOfASafeWordIsNothing(t *testing.T) {
	d := fresh(t, 2)
	flush(t, d, 0, 16)
	wantLoose(t, d)
	write(t, d, 0, "x")
	d.Fence()
	wantLoose(t, d, 0)
	write(t, d, 0, "x")
	flush(t, d, 0, 16)
	d.Fence()
	wantLoose(t, d)
	write(t, d, 0, "y")
	d.Fence()
	wantLoose(t, d, 0)
}

func TestP3_2_WrittenAnewIsNotFlushed(t *testing.T) {
	d := fresh(t, 2)
	write(t, d, 0, "a")
	flush(t, d, 0, 1)
	write(t, d, 7, "b")
	d.Fence()
	wantLoose(t, d, 0)
	flush(t, d, 3, 1)
	d.Fence()
	wantLoose(t, d)
	d.Crash(nil)
	wantBytes(t, d, 0, "a\x00\x00\x00\x00\x00\x00b")
}

func TestP3_2_FenceAloneMakesNothingSafe(t *testing.T) {
	d := fresh(t, 3)
	d.Fence()
	write(t, d, 0, "abcdefghijkl")
	d.Fence()
	wantLoose(t, d, 0, 1)
	flush(t, d, 15, 1)
	d.Fence()
	d.Fence()
	wantLoose(t, d, 0)
}

func TestP3_3_LostIsWhatWasLastSafe(t *testing.T) {
	d := fresh(t, 2)
	write(t, d, 0, "first")
	flush(t, d, 0, 5)
	d.Fence()
	write(t, d, 0, "other")
	write(t, d, 4, "third")
	flush(t, d, 0, 16)
	write(t, d, 2, "x")
	wantBytes(t, d, 0, "otxethird")
	c := d.Copy()
	c.Crash(nil)
	wantBytes(t, c, 0, "first\x00\x00\x00\x00")
	wantLoose(t, c)
	d.Fence()
	d.Crash(nil)
	wantBytes(t, d, 0, "first\x00\x00\x00d")
	wantLoose(t, d)
}

func TestP3_3_KeptOneByOne(t *testing.T) {
	for mask := range 16 {
		d, _ := Of([]byte("aaaaaaaabbbbbbbbccccccccdddddddd"))
		write(t, d, 1, "1111111")
		write(t, d, 8, "2")
		write(t, d, 28, "4")
		want := []byte("aaaaaaaabbbbbbbbccccccccdddddddd")
		var keep []int
		for word := range 4 {
			if mask>>word&1 == 1 {
				keep = append(keep, word)
				copy(want[8*word:], d.Bytes()[8*word:8*word+8])
			}
		}
		d.Crash(keep)
		if !bytes.Equal(d.Bytes(), want) {
			t.Errorf("Crash(%v) leaves %q, want %q", keep, d.Bytes(), want)
		}
		wantLoose(t, d)
	}
}

func TestP3_3_KeepMayNameAnything(t *testing.T) {
	d, _ := Of([]byte("aaaaaaaabbbbbbbbcccccccc"))
	write(t, d, 0, "111111112222222233333333")
	keep := []int{2, 7, -1, 2, 3, math.MaxInt, math.MinInt, 2, 0}
	was := slices.Clone(keep)
	d.Crash(keep)
	wantBytes(t, d, 0, "11111111bbbbbbbb33333333")
	wantLoose(t, d)
	if !slices.Equal(keep, was) {
		t.Errorf("Crash has changed what it was given: %v", keep)
	}
	d.Crash(keep)
	d.Crash([]int{})
	wantBytes(t, d, 0, "11111111bbbbbbbb33333333")
}

func TestP3_3_AllAreSafeThen(t *testing.T) {
	d, _ := Of([]byte("aaaaaaaabbbbbbbb"))
	write(t, d, 0, "1111111122222222")
	flush(t, d, 0, 16)
	d.Crash([]int{1})
	d.Crash(nil)
	wantBytes(t, d, 0, "aaaaaaaa22222222")
	// What was flushed ahead of the crash is not any more.
	write(t, d, 0, "x")
	write(t, d, 8, "y")
	d.Fence()
	wantLoose(t, d, 0, 1)
	d.Crash(nil)
	wantBytes(t, d, 0, "aaaaaaaa22222222")
}

func TestP3_3_AWordIsNeverLostInPart(t *testing.T) {
	next := numbers(11)
	for range 200 {
		d, _ := Of(bytes.Repeat([]byte("."), 40))
		old := d.Bytes()
		for range 6 {
			at := next(40)
			d.Write(at, pattern(next(40-at)+1))
		}
		seen := d.Bytes()
		d.Crash([]int{next(5), next(5)})
		for at := 0; at < 40; at += 8 {
			now := d.Bytes()[at : at+8]
			if !bytes.Equal(now, old[at:at+8]) && !bytes.Equal(now, seen[at:at+8]) {
				t.Fatalf("the word at %d is %q: neither %q nor %q", at, now, old[at:at+8], seen[at:at+8])
			}
		}
	}
}

func TestP3_4_AnyCallsAreAsToldOneByOne(t *testing.T) {
	for _, words := range []int{1, 2, 5, 12} {
		next := numbers(uint32(words))
		d := fresh(t, words)
		r := &reference{words: make([]cell, words)}
		for i := range 5000 {
			step(next, d, r)
			if !same(d, r) {
				t.Fatalf("%d words, call %d: %q, loose %v, want %q, loose %v", words, i, d.Bytes(), d.Loose(), r.bytes(), r.loose())
			}
			if next(20) == 0 {
				d = d.Copy()
			}
		}
	}
}

func TestP3_4_FlushedAndFencedIsThere(t *testing.T) {
	next := numbers(5)
	for range 300 {
		d := fresh(t, 6)
		at := next(48)
		b := pattern(next(48-at) + 1)
		d.Write(next(40), pattern(5))
		d.Write(at, b)
		flush(t, d, at, len(b))
		d.Fence()
		// Another word may be written since.
		for word := range 6 {
			if 8*word+8 <= at || 8*word >= at+len(b) {
				write(t, d, 8*word, "other")
			}
		}
		d.Crash([]int{next(6)})
		wantBytes(t, d, at, string(b))
	}
}

func TestP3_4_KeepAllAndKeepNone(t *testing.T) {
	for seed := range 100 {
		next := numbers(uint32(seed))
		d := fresh(t, 5)
		r := &reference{words: make([]cell, 5)}
		for range 40 {
			step(next, d, r)
		}
		all := d.Copy()
		all.Crash(all.Loose())
		if !bytes.Equal(all.Bytes(), d.Bytes()) || len(all.Loose()) != 0 {
			t.Errorf("a crash that keeps all changes %q to %q", d.Bytes(), all.Bytes())
		}
		none := d.Copy()
		none.Crash(nil)
		for i, c := range r.words {
			if !bytes.Equal(none.Bytes()[8*i:8*i+8], c.safe[:]) {
				t.Errorf("a crash that keeps none leaves %q, want %q", none.Bytes()[8*i:8*i+8], c.safe)
			}
		}
	}
}
