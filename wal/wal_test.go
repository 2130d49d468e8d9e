package wal

import (
	"bytes"
	"encoding/binary"
	"math"
	"slices"
	"strconv"
	"testing"

	"ecdysis/api"
	"ecdysis/crc"
	"ecdysis/pmem"
)

// numbers makes what tells one number behind the other, always the same ones, each below its argument.
func numbers(seed uint32) func(below int) int {
	return func(below int) int {
		seed = seed*1664525 + 1013904223
		return int(seed>>8) % below
	}
}

func fresh(t *testing.T, words int) *pmem.Device {
	t.Helper()
	d, e := pmem.New(words)
	if e != api.OK || d == nil {
		t.Fatalf("New(%d): %d", words, e)
	}
	return d
}

func open(t *testing.T, d *pmem.Device, at, words int) *Log {
	t.Helper()
	l, e := Open(d, at, words)
	if e != api.OK || l == nil {
		t.Fatalf("Open(%d, %d): %d", at, words, e)
	}
	return l
}

func commit(t *testing.T, l *Log, sets ...Set) {
	t.Helper()
	if e := l.Commit(sets); e != api.OK {
		t.Fatalf("Commit(%v): %d", sets, e)
	}
}

// number is what stands in a word.
func number(d *pmem.Device, at int) uint64 {
	return binary.LittleEndian.Uint64(d.Bytes()[8*at:])
}

// put writes words, and makes all of the device safe.
func put(d *pmem.Device, at int, words ...uint64) {
	for i, n := range words {
		d.Write(8*(at+i), binary.LittleEndian.AppendUint64(nil, n))
	}
	d.Flush(0, d.Len())
	d.Fence()
}

// form is a record's words, with whatever count and number the head shall have.
func form(count, seq uint64, words ...uint64) []uint64 {
	b := binary.LittleEndian.AppendUint16(nil, uint16(count))
	b = binary.LittleEndian.AppendUint32(b, uint32(seq))
	for _, n := range words {
		b = binary.LittleEndian.AppendUint64(b, n)
	}
	sum := uint64(crc.Sum(b))
	return append([]uint64{count | seq<<16 | sum<<48}, words...)
}

func wantNumber(t *testing.T, d *pmem.Device, at int, n uint64) {
	t.Helper()
	if got := number(d, at); got != n {
		t.Errorf("word %d is %#x, want %#x", at, got, n)
	}
}

func wantRecover(t *testing.T, d *pmem.Device, at, words, seq int) {
	t.Helper()
	if n, e := Recover(d, at, words); n != seq || e != api.OK {
		t.Errorf("Recover(%d, %d): %d, %d, want %d", at, words, n, e, seq)
	}
}

// subsets goes through all lists that have some of the numbers.
func subsets(list []int) func(yield func([]int) bool) {
	return func(yield func([]int) bool) {
		for bits := range 1 << len(list) {
			var some []int
			for i, n := range list {
				if bits>>i&1 == 1 {
					some = append(some, n)
				}
			}
			if !yield(some) {
				return
			}
		}
	}
}

// same tells whether two devices are just so: seen, loose, and flushed.
func same(a, b *pmem.Device) bool {
	if !bytes.Equal(a.Bytes(), b.Bytes()) || !slices.Equal(a.Loose(), b.Loose()) {
		return false
	}
	a, b = a.Copy(), b.Copy()
	a.Fence()
	b.Fence()
	if !slices.Equal(a.Loose(), b.Loose()) {
		return false
	}
	a.Crash(nil)
	b.Crash(nil)
	return bytes.Equal(a.Bytes(), b.Bytes())
}

type errorCase struct {
	at, words int
	e         api.Errno
}

// The regions that a device of 8 words has not.
func wrongRegions() []errorCase {
	return []errorCase{
		{0, 0, api.ErrArg},
		{0, -1, api.ErrArg},
		{0, math.MinInt, api.ErrArg},
		{-1, 0, api.ErrArg},
		{9, 0, api.ErrArg},
		{math.MinInt, math.MinInt, api.ErrArg},
		{-1, 1, api.ErrPmemEnd},
		{-1, 9, api.ErrPmemEnd},
		{math.MinInt, 1, api.ErrPmemEnd},
		{math.MinInt, math.MaxInt, api.ErrPmemEnd},
		{0, 9, api.ErrPmemEnd},
		{1, 8, api.ErrPmemEnd},
		{8, 1, api.ErrPmemEnd},
		{9, 1, api.ErrPmemEnd},
		{math.MaxInt, 1, api.ErrPmemEnd},
		{1, math.MaxInt, api.ErrPmemEnd},
		{math.MaxInt, math.MaxInt, api.ErrPmemEnd},
	}
}

func TestP4_1_RegionsThatAreNone(t *testing.T) {
	d := fresh(t, 8)
	for _, c := range wrongRegions() {
		if l, e := Open(d, c.at, c.words); l != nil || e != c.e {
			t.Errorf("Open(%d, %d): %v, %d, want %d", c.at, c.words, l, e, c.e)
		}
	}
	none := fresh(t, 0)
	if l, e := Open(none, 0, 1); l != nil || e != api.ErrPmemEnd {
		t.Errorf("a device of no words: %v, %d", l, e)
	}
}

func TestP4_1_Room(t *testing.T) {
	d := fresh(t, 8)
	for words, room := range []int{1: 0, 2: 0, 3: 1, 4: 1, 5: 2, 6: 2, 7: 3, 8: 3} {
		if words == 0 {
			continue
		}
		for at := range 8 - words + 1 {
			if got := open(t, d, at, words).Room(); got != room {
				t.Errorf("Open(%d, %d): room %d, want %d", at, words, got, room)
			}
		}
	}
	great := fresh(t, api.MaxWords)
	if got := open(t, great, 0, api.MaxWords).Room(); got != 4095 {
		t.Error("room of the greatest:", got)
	}
}

func TestP4_1_OpenChangesNothing(t *testing.T) {
	d := fresh(t, 8)
	put(d, 1, form(1, 4, 7, 5)...)
	d.Write(0, []byte{1})
	d.Write(60, []byte{2})
	d.Flush(60, 1)
	was := d.Copy()
	l := open(t, d, 1, 4)
	if l.Room() != 1 || l.Seq() != 5 || l.Seq() != 5 || !same(d, was) {
		t.Error("not as it was:", l.Seq(), d.Bytes())
	}
}

func TestP4_1_NextNumber(t *testing.T) {
	for _, seq := range []uint64{1, 2, 0xffff, 0x10000, 0x12345678, 1<<31 - 1, 1 << 31, 1<<32 - 1} {
		d := fresh(t, 8)
		put(d, 2, form(1, seq, 7, 5)...)
		if got := open(t, d, 2, 3).Seq(); got != int(seq)+1 {
			t.Errorf("behind %d is %d", seq, got)
		}
	}
}

// wrongRecords are words of a region from word 2 on, 6 words long, of a device of 12, that are no record.
func wrongRecords() map[string][]uint64 {
	spoilt := func(bit int) []uint64 {
		words := form(2, 3, 0, 5, 8, 6)
		words[bit/64] ^= 1 << (bit % 64)
		return words
	}
	list := map[string][]uint64{
		"zero":                  {0, 0, 0, 0, 0, 0},
		"no sets":               form(0, 3),
		"no sets, words behind": form(0, 3, 0, 5),
		"number 0":              form(1, 0, 0, 5),
		// Its seventh word stands there all the same, behind the region.
		"more sets than room":       form(3, 3, 0, 5, 9, 6, 0, 0),
		"many sets":                 form(65535, 3, 0, 5, 8, 6),
		"one word of the sum more":  form(1, 3, 0, 5, 0),
		"the whole region's sum":    form(2, 3, 0, 5, 8, 6, 0),
		"the first of the region":   form(1, 3, 2, 5),
		"the last of the region":    form(1, 3, 7, 5),
		"the last one is of it":     form(2, 3, 8, 5, 3, 6),
		"the end":                   form(1, 3, 12, 5),
		"far behind the end":        form(1, 3, 1<<32, 5),
		"the greatest":              form(1, 3, math.MaxInt64, 5),
		"one below 0":               form(1, 3, math.MaxUint64, 5),
		"the least":                 form(1, 3, 1<<63, 5),
		"a wrap round of its bytes": form(1, 3, 1<<61, 5),
	}
	for bit := range 5 * 64 {
		list["bit "+strconv.Itoa(bit)] = spoilt(bit)
	}
	return list
}

func TestP4_1_WhatIsNoRecord(t *testing.T) {
	for name, words := range wrongRecords() {
		d := fresh(t, 12)
		put(d, 2, words...)
		if got := open(t, d, 2, 6).Seq(); got != 1 {
			t.Errorf("%s: the next number is %d", name, got)
		}
	}
}

func TestP4_1_WhatIsARecord(t *testing.T) {
	for name, words := range map[string][]uint64{
		"one set":               form(1, 3, 0, 5),
		"ahead of the region":   form(1, 3, 1, 5),
		"behind it":             form(1, 3, 8, 5),
		"the last word":         form(1, 3, 11, 5),
		"two sets":              form(2, 3, 0, 5, 8, 6),
		"one word twice":        form(2, 3, 8, 5, 8, 6),
		"something behind it":   append(form(1, 3, 0, 5), 9, 9, 9),
		"a great number comes":  form(1, 3, 0, math.MaxUint64),
		"the last word unused":  append(form(2, 3, 0, 5, 8, 6), 77),
		"sets behind its count": append(form(1, 3, 0, 5), 2, 1),
	} {
		d := fresh(t, 12)
		put(d, 2, words...)
		if got := open(t, d, 2, 6).Seq(); got != 4 {
			t.Errorf("%s: the next number is %d", name, got)
		}
	}
	// All words are seen, loose ones, too.
	d := fresh(t, 12)
	for i, n := range form(1, 3, 0, 5) {
		d.Write(8*(2+i), binary.LittleEndian.AppendUint64(nil, n))
	}
	if got := open(t, d, 2, 6).Seq(); got != 4 {
		t.Error("a loose one: the next number is", got)
	}
	// Three sets stand just in seven words, and not in six.
	put(d, 2, form(3, 3, 0, 5, 9, 6, 10, 7)...)
	if a, b := open(t, d, 2, 7).Seq(), open(t, d, 2, 6).Seq(); a != 4 || b != 1 {
		t.Error("three sets:", a, b)
	}
}

func TestP4_2_WrongSets(t *testing.T) {
	d := fresh(t, 12)
	l := open(t, d, 2, 6)
	commit(t, l, Set{0, 1})
	was := d.Copy()
	good := Set{At: 8, N: 1}
	for _, c := range []struct {
		sets []Set
		e    api.Errno
	}{
		{nil, api.ErrArg},
		{[]Set{}, api.ErrArg},
		{[]Set{{At: -1}}, api.ErrArg},
		{[]Set{{At: math.MinInt}}, api.ErrArg},
		{[]Set{{At: math.MaxInt}}, api.ErrArg},
		{[]Set{{At: 12}}, api.ErrArg},
		{[]Set{{At: 2}}, api.ErrArg},
		{[]Set{{At: 7}}, api.ErrArg},
		{[]Set{good, {At: 5}}, api.ErrArg},
		{[]Set{{At: 12}, good}, api.ErrArg},
		// More than there is room for, and one that may not be: that is named first.
		{[]Set{good, good, good, {At: 4}}, api.ErrArg},
		{[]Set{good, good, good}, api.ErrWalFull},
		{slices.Repeat([]Set{good}, 70000), api.ErrWalFull},
	} {
		if steps, e := l.Begin(c.sets); steps != nil || e != c.e {
			t.Errorf("Begin(%d sets): %d steps, %d, want %d", len(c.sets), len(steps), e, c.e)
		}
		if e := l.Commit(c.sets); e != c.e {
			t.Errorf("Commit(%d sets): %d, want %d", len(c.sets), e, c.e)
		}
		if l.Seq() != 2 || !same(d, was) {
			t.Fatal("it has changed:", l.Seq(), d.Bytes())
		}
	}
}

func TestP4_2_NoRoomAtAll(t *testing.T) {
	d := fresh(t, 8)
	for _, words := range []int{1, 2} {
		l := open(t, d, 0, words)
		if e := l.Commit([]Set{{At: 7}}); e != api.ErrWalFull {
			t.Errorf("%d words: %d", words, e)
		}
		if e := l.Commit(nil); e != api.ErrArg {
			t.Errorf("%d words, nothing: %d", words, e)
		}
	}
	// No word is left outside.
	l := open(t, d, 0, 8)
	for at := -1; at < 10; at++ {
		if e := l.Commit([]Set{{At: at}}); e != api.ErrArg {
			t.Errorf("word %d: %d", at, e)
		}
	}
}

func TestP4_2_LastNumber(t *testing.T) {
	d := fresh(t, 8)
	put(d, 0, form(1, 1<<32-2, 7, 5)...)
	l := open(t, d, 0, 4)
	commit(t, l, Set{7, 6})
	if l.Seq() != 1<<32 {
		t.Error("the next number:", l.Seq())
	}
	wantRecover(t, d, 0, 4, 1<<32-1)
	if got := open(t, d, 0, 4).Seq(); got != 1<<32 {
		t.Error("opened again:", got)
	}
	was := d.Copy()
	if steps, e := l.Begin([]Set{{7, 8}}); steps != nil || e != api.ErrWalFull {
		t.Error("Begin:", len(steps), e)
	}
	if e := l.Commit([]Set{{7, 8}}); e != api.ErrWalFull {
		t.Error("Commit:", e)
	}
	if e := l.Commit([]Set{{0, 8}}); e != api.ErrArg {
		t.Error("Commit of what may not be:", e)
	}
	if l.Seq() != 1<<32 || !same(d, was) {
		t.Error("it has changed:", l.Seq(), d.Bytes())
	}
}

// script does the steps of the document, call by call, telling after each.
func script(d *pmem.Device, at int, seq uint64, sets []Set, told func(name string)) {
	write := func(name string, k int, n uint64) {
		d.Write(8*k, binary.LittleEndian.AppendUint64(nil, n))
		told("write " + name)
	}
	flush := func(name string, k, words int) {
		d.Flush(8*k, 8*words)
		told("flush " + name)
	}
	fence := func() {
		d.Fence()
		told("fence")
	}
	var words []uint64
	for _, s := range sets {
		words = append(words, uint64(s.At), s.N)
	}
	write("the head 0", at, 0)
	flush("the head 0", at, 1)
	fence()
	for i, n := range words {
		write("a word of the sets", at+1+i, n)
	}
	flush("the words of the sets", at+1, len(words))
	fence()
	write("the head", at, form(uint64(len(sets)), seq, words...)[0])
	flush("the head", at, 1)
	fence()
	for _, s := range sets {
		write("a number", s.At, s.N)
		flush("a number", s.At, 1)
	}
	fence()
}

func TestP4_2_StepsOneByOne(t *testing.T) {
	for _, sets := range [][]Set{
		{{0, 3}},
		{{11, 3}},
		{{0, 3}, {17, math.MaxUint64}},
		{{12, 1 << 63}, {0, 4}},
		{{1, 5}, {1, 6}, {11, 0}},
		{{17, 1}, {16, 2}, {0, 3}, {1, 0x0102030405060708}},
	} {
		const at, words = 2, 9
		d := fresh(t, 20)
		put(d, 0, slices.Repeat([]uint64{0x7777777777777777}, 20)...)
		put(d, at, form(1, 40, 0, 5)...)
		// Of what is loose and flushed elsewhere, a step takes no notice but for a Fence.
		d.Write(8*19, []byte{1})
		d.Write(8*18, []byte{1})
		d.Flush(8*18, 8)
		want := d.Copy()
		l := open(t, d, at, words)
		was := d.Copy()
		steps, e := l.Begin(sets)
		if e != api.OK || len(steps) != 9+4*len(sets) {
			t.Fatalf("Begin(%v): %d steps, %d", sets, len(steps), e)
		}
		if l.Seq() != 42 || !same(d, was) {
			t.Errorf("Begin(%v): the next number is %d", sets, l.Seq())
		}
		n := 0
		script(want, at, 41, sets, func(name string) {
			if n < len(steps) {
				steps[n]()
			}
			n++
			if !same(d, want) {
				t.Fatalf("%v: step %d, %s:\n%v %v, want\n%v %v", sets, n, name, d.Bytes(), d.Loose(), want.Bytes(), want.Loose())
			}
		})
		if n != len(steps) {
			t.Errorf("%v: %d steps, want %d", sets, len(steps), n)
		}
	}
}

func TestP4_2_CommitIsAllSteps(t *testing.T) {
	next := numbers(3)
	for range 300 {
		d := fresh(t, 16)
		words := 3 + next(8)
		at := next(16 - words + 1)
		want := d.Copy()
		l := open(t, d, at, words)
		for n := range 4 {
			var sets []Set
			for range 1 + next(l.Room()) {
				k := next(16 - words)
				if k >= at {
					k += words
				}
				sets = append(sets, Set{At: k, N: uint64(next(1<<20)) << next(40)})
			}
			commit(t, l, sets...)
			script(want, at, uint64(n+1), sets, func(string) {})
			if !same(d, want) || l.Seq() != n+2 {
				t.Fatalf("Commit(%v): %v, want %v", sets, d.Bytes(), want.Bytes())
			}
		}
	}
}

func TestP4_2_FullRegion(t *testing.T) {
	d := fresh(t, api.MaxWords)
	l := open(t, d, 1, api.MaxWords-1)
	sets := make([]Set, l.Room())
	for i := range sets {
		sets[i] = Set{At: 0, N: uint64(i)}
	}
	commit(t, l, sets...)
	wantNumber(t, d, 0, uint64(len(sets)-1))
	put(d, 0, 99999)
	wantRecover(t, d, 1, api.MaxWords-1, 1)
	wantNumber(t, d, 0, uint64(len(sets)-1))
	if e := l.Commit(append(sets, Set{})); e != api.ErrWalFull {
		t.Error("one more:", e)
	}
}

func TestP4_2_SetsStayTheCallers(t *testing.T) {
	d := fresh(t, 12)
	l := open(t, d, 2, 6)
	sets := []Set{{0, 3}, {8, 4}, {9, 5}}
	steps, e := l.Begin(sets[:2])
	if e != api.OK || !slices.Equal(sets, []Set{{0, 3}, {8, 4}, {9, 5}}) {
		t.Fatal("Begin:", e, sets)
	}
	// What is written into the sets ahead of the steps counts no more.
	sets[0], sets[1] = Set{10, 30}, Set{3, 40}
	other, e := l.Begin([]Set{{11, 7}})
	if e != api.OK {
		t.Fatal("Begin:", e)
	}
	run(steps)
	wantNumber(t, d, 0, 3)
	wantNumber(t, d, 8, 4)
	wantNumber(t, d, 10, 0)
	wantNumber(t, d, 11, 0)
	wantRecover(t, d, 2, 6, 1)
	// A list of steps is the caller's own, too.
	all := slices.Clone(other)
	clear(steps[:cap(steps)])
	run(all)
	wantNumber(t, d, 11, 7)
	wantRecover(t, d, 2, 6, 2)
}

func TestP4_2_NumberGoesUpAtBegin(t *testing.T) {
	d := fresh(t, 8)
	l := open(t, d, 0, 4)
	for n := 1; n < 5; n++ {
		if l.Seq() != n {
			t.Errorf("the next number is %d, want %d", l.Seq(), n)
		}
		if _, e := l.Begin([]Set{{7, 1}}); e != api.OK {
			t.Error("Begin:", e)
		}
	}
	commit(t, l, Set{7, 1})
	wantRecover(t, d, 0, 4, 5)
	// None of the steps was taken for the four: the one of Commit alone stands there.
	if open(t, d, 0, 4).Seq() != 6 || l.Seq() != 6 {
		t.Error("the next number:", l.Seq())
	}
}

func TestP4_3_RegionsThatAreNone(t *testing.T) {
	d := fresh(t, 8)
	put(d, 0, form(1, 3, 7, 5)...)
	was := d.Copy()
	for _, c := range wrongRegions() {
		if n, e := Recover(d, c.at, c.words); n != 0 || e != c.e {
			t.Errorf("Recover(%d, %d): %d, %d, want %d", c.at, c.words, n, e, c.e)
		}
	}
	if !same(d, was) {
		t.Error("it has changed:", d.Bytes())
	}
}

func TestP4_3_WhatIsNoRecord(t *testing.T) {
	for name, words := range wrongRecords() {
		d := fresh(t, 12)
		put(d, 2, words...)
		// A Fence would be seen: it makes this one safe.
		d.Write(8*11, []byte{1})
		d.Flush(8*11, 8)
		was := d.Copy()
		if n, e := Recover(d, 2, 6); n != 0 || e != api.OK {
			t.Errorf("%s: %d, %d", name, n, e)
		}
		if !same(d, was) {
			t.Errorf("%s: it has changed", name)
		}
	}
	d := fresh(t, 12)
	for words := 1; words < 3; words++ {
		put(d, 2, form(1, 3, 0, 5)...)
		wantRecover(t, d, 2, words, 0)
	}
	wantNumber(t, d, 0, 0)
}

func TestP4_3_SetsComeInOrder(t *testing.T) {
	d := fresh(t, 12)
	put(d, 2, form(3, 0xfedcba98, 8+1, 5, 0, math.MaxUint64, 8+1, 6)...)
	d.Write(8*11, []byte{1})
	d.Write(8*10, []byte{1})
	d.Flush(8*10, 8)
	want := d.Copy()
	wantRecover(t, d, 2, 7, 0xfedcba98)
	for _, s := range []Set{{9, 5}, {0, math.MaxUint64}, {9, 6}} {
		want.Write(8*s.At, binary.LittleEndian.AppendUint64(nil, s.N))
		want.Flush(8*s.At, 8)
	}
	want.Fence()
	if !same(d, want) {
		t.Error("it is", d.Bytes(), "and loose are", d.Loose())
	}
	d.Crash(nil)
	wantNumber(t, d, 0, math.MaxUint64)
	wantNumber(t, d, 9, 6)
}

func TestP4_3_Example(t *testing.T) {
	d := fresh(t, 8)
	l := open(t, d, 0, 5)
	if l.Room() != 2 {
		t.Error("room:", l.Room())
	}
	commit(t, l, Set{7, 5})
	wantRecover(t, d, 0, 5, 1)
	wantNumber(t, d, 7, 5)
}

// wantWhole crashes the device with these words kept, recovers it, and holds its words against the old and the new ones.
func wantWhole(t *testing.T, d *pmem.Device, keep []int, at, words int, old, now map[int]uint64) (isNew bool) {
	t.Helper()
	c := d.Copy()
	c.Crash(keep)
	seq, e := Recover(c, at, words)
	if e != api.OK || len(c.Loose()) != 0 {
		t.Fatalf("Recover: %d, %d, loose are %v", seq, e, c.Loose())
	}
	isOld, isNew := true, true
	for k := range old {
		isOld = isOld && number(c, k) == old[k]
		isNew = isNew && number(c, k) == now[k]
	}
	if !isOld && !isNew {
		t.Fatalf("kept are %v: some old, some new: %v", keep, c.Bytes())
	}
	was := c.Copy()
	if again, e := Recover(c, at, words); again != seq || e != api.OK || !same(c, was) {
		t.Fatalf("once more: %d, %d, and it was %d", again, e, seq)
	}
	return isNew
}

func TestP4_4_WhateverIsKept(t *testing.T) {
	const at, words = 1, 6
	old := map[int]uint64{0: 21, 7: 22, 8: 23}
	for _, sets := range [][]Set{
		{{0, 31}, {7, 32}},
		{{8, 33}},
		{{7, 33}, {7, 34}},
		{{8, 41}, {0, 0}},
	} {
		for _, first := range [][]Set{nil, {{8, 23}}, {{0, 21}, {7, 22}}} {
			d := fresh(t, 9)
			put(d, 0, 21)
			put(d, 7, 22, 23)
			l := open(t, d, at, words)
			if first != nil {
				commit(t, l, first...)
			}
			now := map[int]uint64{0: 21, 7: 22, 8: 23}
			for _, s := range sets {
				now[s.At] = s.N
			}
			steps, e := l.Begin(sets)
			if e != api.OK {
				t.Fatal("Begin:", e)
			}
			// The head is written by the step of that number: from then on it may be the new ones, three steps on it must.
			head := 3 + 2*len(sets) + 2
			for n := 0; ; n++ {
				news, olds := 0, 0
				for keep := range subsets(d.Loose()) {
					if wantWhole(t, d, keep, at, words, old, now) {
						news++
					} else {
						olds++
					}
				}
				if n <= head && news > 0 || n >= head+3 && olds > 0 {
					t.Errorf("%v behind %v: ahead of step %d: %d times new, %d times old", sets, first, n, news, olds)
				}
				if (n == head+1 || n == head+2) && (news == 0 || olds == 0) {
					t.Errorf("%v behind %v: ahead of step %d: %d times new, %d times old", sets, first, n, news, olds)
				}
				if n == len(steps) {
					break
				}
				steps[n]()
			}
			if len(d.Loose()) != 0 {
				t.Error("loose behind the last step:", d.Loose())
			}
			for k, n := range now {
				wantNumber(t, d, k, n)
			}
		}
	}
}

func TestP4_4_ManyCrashes(t *testing.T) {
	next := numbers(11)
	for range 400 {
		const size = 24
		words := 3 + next(12)
		at := next(size - words + 1)
		d := fresh(t, size)
		last := 0
		for range 6 {
			old := map[int]uint64{}
			for k := range size {
				if k < at || k >= at+words {
					old[k] = number(d, k)
				}
			}
			now := map[int]uint64{}
			for k, n := range old {
				now[k] = n
			}
			l := open(t, d, at, words)
			if l.Seq() != last+1 {
				t.Fatalf("the next number is %d, want %d", l.Seq(), last+1)
			}
			var sets []Set
			for range 1 + next(l.Room()) {
				k := next(size - words)
				if k >= at {
					k += words
				}
				sets = append(sets, Set{At: k, N: uint64(1 + next(1<<22))})
				now[k] = sets[len(sets)-1].N
			}
			steps, e := l.Begin(sets)
			if e != api.OK {
				t.Fatal("Begin:", e)
			}
			run(steps[:next(len(steps)+1)])
			var keep []int
			for _, k := range d.Loose() {
				if next(2) == 1 {
					keep = append(keep, k)
				}
			}
			isNew := wantWhole(t, d, keep, at, words, old, now)
			d.Crash(keep)
			// The sequence number of what is recovered tells which it was: 0, if the head is written over.
			seq, _ := Recover(d, at, words)
			if isNew != (seq == last+1) {
				t.Fatalf("recovered is %d behind %d, new: %v", seq, last, isNew)
			}
			last = seq
		}
	}
}
