package wire_test

import (
	"bytes"
	"encoding/binary"
	"math"
	"math/rand"
	"reflect"
	"slices"
	"strings"
	"testing"

	"rollbook/api"
	"rollbook/wire"
)

// value is a value of one of the kinds that can be written: uint64, int, bool, string, []int.
type value any

func write(w *wire.Writer, v value) {
	switch x := v.(type) {
	case uint64:
		w.Uint(x)
	case int:
		w.Int(x)
	case bool:
		w.Bool(x)
	case string:
		w.Text(x)
	case []int:
		w.Ints(x)
	}
}

// read reads a value of the kind of v.
func read(r *wire.Reader, v value) value {
	switch v.(type) {
	case uint64:
		return r.Uint()
	case int:
		return r.Int()
	case bool:
		return r.Bool()
	case string:
		return r.Text(math.MaxInt)
	}
	return r.Ints(math.MaxInt)
}

func encode(values ...value) []byte {
	var w wire.Writer
	for _, v := range values {
		write(&w, v)
	}
	return w.Done()
}

func same(a, b value) bool {
	if l, ok := a.([]int); ok {
		m, ok := b.([]int)
		return ok && slices.Equal(l, m)
	}
	if _, ok := b.([]int); ok {
		return false
	}
	return a == b
}

// isZero says whether v is the zero value of its kind.
func isZero(v value) bool {
	return same(v, uint64(0)) || same(v, 0) || same(v, false) || same(v, "") || same(v, []int(nil))
}

// kinds has one value of each kind.
var kinds = []value{uint64(0), 0, false, "", []int(nil)}

func repeat(b byte, n int, more ...byte) []byte {
	return append(bytes.Repeat([]byte{b}, n), more...)
}

// unsigned are the unsigned numbers around those at which encodings become longer.
func unsigned() []uint64 {
	l := []uint64{0, 1, 2, 3, 300, math.MaxUint64}
	for bit := range 64 {
		l = append(l, 1<<bit-1, 1<<bit, 1<<bit+1)
	}
	return l
}

// numbers are the numbers with these encodings.
func numbers() []int {
	l := []int{0, -3, 300, math.MinInt, math.MaxInt, math.MinInt + 1}
	for bit := range 63 {
		l = append(l, 1<<bit-1, 1<<bit, -1<<bit, -1<<bit-1)
	}
	return l
}

// samples are values of all kinds.
func samples() []value {
	l := []value{true, false}
	for _, n := range unsigned() {
		l = append(l, n)
	}
	for _, n := range numbers() {
		l = append(l, n)
	}
	for _, size := range []int{0, 1, 2, 127, 128, 129, 300} {
		l = append(l, strings.Repeat("x", size), make([]int, size), strings.Repeat("\x80", size))
	}
	return append(l, "ab", "a\x00b", "\xff\xfe", "é", []int{-1, 64}, []int{64, -1}, numbers())
}

// P2.1: the examples of the chapter and the ends of each length, byte for byte.
func TestBytes(t *testing.T) {
	for _, c := range []struct {
		v    value
		want []byte
	}{
		{uint64(0), []byte{0}},
		{uint64(127), []byte{127}},
		{uint64(128), []byte{128, 1}},
		{uint64(300), []byte{172, 2}},
		{uint64(16383), []byte{255, 127}},
		{uint64(16384), []byte{128, 128, 1}},
		{uint64(1 << 63), repeat(128, 9, 1)},
		{uint64(1<<63 - 1), repeat(255, 8, 127)},
		{uint64(math.MaxUint64), repeat(255, 9, 1)},
		{0, []byte{0}},
		{-1, []byte{1}},
		{1, []byte{2}},
		{-3, []byte{5}},
		{63, []byte{126}},
		{-64, []byte{127}},
		{64, []byte{128, 1}},
		{-65, []byte{129, 1}},
		{300, []byte{216, 4}},
		{math.MaxInt, append([]byte{254}, repeat(255, 8, 1)...)},
		{math.MinInt, repeat(255, 9, 1)},
		{false, []byte{0}},
		{true, []byte{1}},
		{"", []byte{0}},
		{"ab", []byte{2, 97, 98}},
		{"\xff\x00é", []byte{4, 255, 0, 195, 169}},
		{[]int(nil), []byte{0}},
		{[]int{}, []byte{0}},
		{[]int{-1, 64}, []byte{2, 1, 128, 1}},
	} {
		if got := encode(c.v); !bytes.Equal(got, c.want) {
			t.Errorf("%T %v: %v, want %v", c.v, c.v, got, c.want)
		}
	}
}

// P2.1: numbers, against the standard library.
func TestNumbersAgainstLibrary(t *testing.T) {
	for _, n := range unsigned() {
		if got, want := encode(n), binary.AppendUvarint(nil, n); !bytes.Equal(got, want) {
			t.Errorf("Uint(%d): %v, want %v", n, got, want)
		}
	}
	for _, n := range numbers() {
		if got, want := encode(n), binary.AppendVarint(nil, int64(n)); !bytes.Equal(got, want) {
			t.Errorf("Int(%d): %v, want %v", n, got, want)
		}
	}
}

// P2.1: the lengths of strings and lists are unsigned numbers, which may take several bytes.
func TestLongTextsAndLists(t *testing.T) {
	for _, size := range []int{127, 128, 16384} {
		length := binary.AppendUvarint(nil, uint64(size))
		if got := encode(strings.Repeat("a", size)); !bytes.Equal(got, append(slices.Clone(length), repeat('a', size)...)) {
			t.Errorf("a string of %d bytes has %d bytes, and begins %v", size, len(got), got[:4])
		}
		if got := encode(slices.Repeat([]int{-3}, size)); !bytes.Equal(got, append(slices.Clone(length), repeat(5, size)...)) {
			t.Errorf("a list of %d numbers has %d bytes, and begins %v", size, len(got), got[:4])
		}
	}
}

// P2.1: Done returns everything since the beginning, each time, and the writer goes on.
func TestDone(t *testing.T) {
	var w wire.Writer
	if got := w.Done(); len(got) != 0 {
		t.Error("Done of the zero Writer:", got)
	}
	var want []byte
	for _, v := range samples() {
		write(&w, v)
		want = append(want, encode(v)...)
		if got := w.Done(); !bytes.Equal(got, want) {
			t.Fatalf("Done after %T %v differs from the encodings one after the other", v, v)
		}
	}
	if !bytes.Equal(w.Done(), want) {
		t.Error("a second Done differs")
	}
}

// P2.1, R4: what Done returns shares no memory with the writer, and Ints does not keep its argument.
func TestWriterSharesNothing(t *testing.T) {
	var w wire.Writer
	l := []int{1, 2, 3}
	w.Ints(l[:2])
	if !slices.Equal(l, []int{1, 2, 3}) {
		t.Error("Ints changed its argument:", l)
	}
	clear(l)
	first, second := w.Done(), w.Done()
	clear(first[:cap(first)])
	if want := []byte{2, 2, 4}; !bytes.Equal(second, want) || !bytes.Equal(w.Done(), want) {
		t.Error("Done shares memory:", second, w.Done())
	}
	spare := second[:cap(second)]
	w.Uint(7)
	clear(spare[len(second):])
	if !bytes.Equal(second, []byte{2, 2, 4}) || !bytes.Equal(w.Done(), []byte{2, 2, 4, 7}) {
		t.Error("Uint after Done:", second, w.Done())
	}
}

// P2.2: a new reader has no error, and all the bytes.
func TestNewReader(t *testing.T) {
	for _, b := range [][]byte{nil, {}} {
		if r := wire.NewReader(b); r.Err() != api.OK || r.End() != api.OK {
			t.Error("a reader of no bytes:", r.Err(), r.End())
		}
	}
	r := wire.NewReader([]byte{255})
	if r.Err() != api.OK || r.End() != api.ErrForm {
		t.Error("a reader of a byte:", r.Err(), r.End())
	}
}

// P2.2, R4: a reader neither keeps nor changes its argument, nor what is behind it.
func TestReaderSharesNothing(t *testing.T) {
	room := []byte{2, 'a', 'b', 2, 1, 4, 99}
	r := wire.NewReader(room[:6])
	clear(room)
	if got := r.Text(2); got != "ab" {
		t.Errorf("Text: %q", got)
	}
	l := r.Ints(2)
	if !slices.Equal(l, []int{-1, 2}) || r.End() != api.OK {
		t.Error("Ints:", l, r.End())
	}
	if !bytes.Equal(room, make([]byte, 7)) {
		t.Error("the argument was changed:", room)
	}
	other := wire.NewReader([]byte{2, 1, 4, 2, 1, 4})
	first, second := other.Ints(2), other.Ints(2)
	clear(first[:cap(first)])
	if !slices.Equal(second, []int{-1, 2}) {
		t.Error("two results share memory:", second)
	}
}

// numberCases are bytes, and the error of reading an unsigned number or a number from them.
var numberCases = []struct {
	b []byte
	e api.Errno
}{
	{nil, api.ErrShort},
	{[]byte{128}, api.ErrShort},
	{[]byte{255}, api.ErrShort},
	{repeat(128, 9), api.ErrShort},
	{repeat(255, 9), api.ErrShort},
	{repeat(128, 10), api.ErrForm},
	{repeat(255, 10), api.ErrForm},
	{repeat(255, 11), api.ErrForm},
	{repeat(128, 10, 1), api.ErrForm},
	{repeat(255, 9, 2), api.ErrForm},
	{repeat(128, 9, 2), api.ErrForm},
	{repeat(128, 9, 127), api.ErrForm},
	{repeat(128, 9, 128), api.ErrForm},
	{repeat(128, 9, 0), api.ErrForm},
	{repeat(255, 9, 0), api.ErrForm},
	{[]byte{128, 0}, api.ErrForm},
	{[]byte{128, 0, 1}, api.ErrForm},
	{[]byte{255, 0}, api.ErrForm},
	{[]byte{129, 128, 0}, api.ErrForm},
	{repeat(128, 8, 0), api.ErrForm},
	{[]byte{0}, api.OK},
	{[]byte{127}, api.OK},
	{[]byte{128, 1}, api.OK},
	{repeat(128, 8, 1), api.OK},
	{repeat(128, 9, 1), api.OK},
	{repeat(255, 9, 1), api.OK},
}

// P2.3: the errors of unsigned numbers and of numbers; with an error the result is 0.
func TestNumberErrors(t *testing.T) {
	for _, c := range numberCases {
		r := wire.NewReader(c.b)
		if n := r.Uint(); r.Err() != c.e || c.e != api.OK && n != 0 {
			t.Errorf("Uint of %v: %d, %d, want %d", c.b, n, r.Err(), c.e)
		}
		r = wire.NewReader(c.b)
		if n := r.Int(); r.Err() != c.e || c.e != api.OK && n != 0 {
			t.Errorf("Int of %v: %d, %d, want %d", c.b, n, r.Err(), c.e)
		}
	}
}

// P2.3: the values of numbers; the bytes behind them are left.
func TestNumberValues(t *testing.T) {
	for _, n := range unsigned() {
		r := wire.NewReader(append(binary.AppendUvarint(nil, n), 5, 255))
		if got, next := r.Uint(), r.Uint(); got != n || next != 5 || r.Err() != api.OK {
			t.Errorf("Uint: %d, then %d, want %d; %d", got, next, n, r.Err())
		}
	}
	for _, n := range numbers() {
		r := wire.NewReader(append(binary.AppendVarint(nil, int64(n)), 5, 255))
		if got, next := r.Int(), r.Int(); got != n || next != -3 || r.Err() != api.OK {
			t.Errorf("Int: %d, then %d, want %d; %d", got, next, n, r.Err())
		}
	}
}

// P2.4: booleans; only the bytes 0 and 1 are some.
func TestBool(t *testing.T) {
	r := wire.NewReader([]byte{1, 0, 1})
	if a, b, c := r.Bool(), r.Bool(), r.Bool(); !a || b || !c || r.End() != api.OK {
		t.Error("Bool of 1, 0, 1:", a, b, c, r.End())
	}
	if r.Bool() || r.Err() != api.ErrShort {
		t.Error("Bool of no byte:", r.Err())
	}
	for b := 2; b < 256; b++ {
		r := wire.NewReader([]byte{byte(b), 1})
		if r.Bool() || r.Err() != api.ErrForm {
			t.Errorf("Bool of %d: %d", b, r.Err())
		}
	}
}

// textCases are bytes, a limit, and what reading a string from them yields.
var textCases = []struct {
	b    []byte
	most int
	want string
	e    api.Errno
}{
	{[]byte{2, 'a', 'b'}, 2, "ab", api.OK},
	{[]byte{2, 'a', 'b', 'c'}, math.MaxInt, "ab", api.OK},
	{[]byte{0}, 0, "", api.OK},
	{[]byte{3, 255, 0, 128}, 3, "\xff\x00\x80", api.OK},
	{nil, 5, "", api.ErrShort},
	{[]byte{128}, 5, "", api.ErrShort},
	{[]byte{128, 0}, 5, "", api.ErrForm},
	{repeat(255, 10), 5, "", api.ErrForm},
	{nil, -1, "", api.ErrShort},
	{[]byte{130, 0}, -1, "", api.ErrForm},
	{[]byte{2, 'a', 'b'}, 1, "", api.ErrLimit},
	{[]byte{1, 'a'}, 0, "", api.ErrLimit},
	{[]byte{0}, -1, "", api.ErrLimit},
	{[]byte{0}, math.MinInt, "", api.ErrLimit},
	{[]byte{1, 'a'}, math.MinInt, "", api.ErrLimit},
	{[]byte{2, 'a'}, 1, "", api.ErrLimit},
	{[]byte{2, 'a'}, 2, "", api.ErrShort},
	{[]byte{1}, 1, "", api.ErrShort},
	{repeat(255, 9, 1), math.MaxInt, "", api.ErrLimit},
	{repeat(255, 9, 1), -1, "", api.ErrLimit},
	{repeat(128, 9, 1), math.MaxInt, "", api.ErrLimit},
	{repeat(255, 8, 127), math.MaxInt, "", api.ErrShort},
	{repeat(255, 8, 127), math.MaxInt - 1, "", api.ErrLimit},
}

// P2.5: strings, and their errors in the order of the promise.
func TestText(t *testing.T) {
	for _, c := range textCases {
		r := wire.NewReader(c.b)
		if s := r.Text(c.most); s != c.want || r.Err() != c.e {
			t.Errorf("Text(%d) of %v: %q, %d, want %q, %d", c.most, c.b, s, r.Err(), c.want, c.e)
		}
	}
	r := wire.NewReader([]byte{1, 'a', 1, 'b', 4})
	if s, u, n := r.Text(1), r.Text(1), r.Int(); s != "a" || u != "b" || n != 2 || r.End() != api.OK {
		t.Error("two strings and a number:", s, u, n, r.End())
	}
}

// listCases are bytes, a limit, and what reading a list from them yields.
var listCases = []struct {
	b    []byte
	most int
	want []int
	e    api.Errno
}{
	{[]byte{2, 1, 128, 1}, 2, []int{-1, 64}, api.OK},
	{[]byte{2, 1, 128, 1, 128}, math.MaxInt, []int{-1, 64}, api.OK},
	{[]byte{0}, 0, nil, api.OK},
	{nil, 5, nil, api.ErrShort},
	{[]byte{128, 0}, 5, nil, api.ErrForm},
	{nil, -1, nil, api.ErrShort},
	{[]byte{128, 0}, -1, nil, api.ErrForm},
	{[]byte{0}, -1, nil, api.ErrLimit},
	{[]byte{0}, math.MinInt, nil, api.ErrLimit},
	{[]byte{2, 1, 1}, 1, nil, api.ErrLimit},
	{[]byte{2}, 1, nil, api.ErrLimit},
	{[]byte{2, 1, 128, 0}, 1, nil, api.ErrLimit},
	{[]byte{2, 1}, 2, nil, api.ErrShort},
	{[]byte{2, 1, 128}, 2, nil, api.ErrShort},
	{[]byte{3, 1, 128, 0}, 3, nil, api.ErrForm},
	{append([]byte{2, 1}, repeat(255, 10)...), 2, nil, api.ErrForm},
	{repeat(255, 9, 1), math.MaxInt, nil, api.ErrLimit},
	{repeat(128, 9, 1), math.MaxInt, nil, api.ErrLimit},
	{repeat(255, 8, 127, 1, 1), math.MaxInt, nil, api.ErrShort},
	{repeat(255, 8, 127, 1, 128, 0), math.MaxInt, nil, api.ErrForm},
}

// P2.6: lists, and their errors in the order of the promise; with an error the elements before it are not returned.
func TestInts(t *testing.T) {
	for _, c := range listCases {
		r := wire.NewReader(c.b)
		if l := r.Ints(c.most); !slices.Equal(l, c.want) || r.Err() != c.e {
			t.Errorf("Ints(%d) of %v: %v, %d, want %v, %d", c.most, c.b, l, r.Err(), c.want, c.e)
		}
	}
	r := wire.NewReader([]byte{1, 1, 0, 2, 2, 4, 6})
	if a, b, c, n := r.Ints(1), r.Ints(0), r.Ints(2), r.Int(); !slices.Equal(a, []int{-1}) || len(b) != 0 || !slices.Equal(c, []int{1, 2}) || n != 3 || r.End() != api.OK {
		t.Error("three lists and a number:", a, b, c, n, r.End())
	}
}

// P2.3 to P2.7: after any error, each read returns a zero value and the error stays.
func TestReadsAfterAnError(t *testing.T) {
	good := []byte{1, 1, 1, 1, 1, 1, 1, 1}
	for _, begin := range []struct {
		name string
		fail func(r *wire.Reader)
		b    []byte
		e    api.Errno
	}{
		{"Uint", func(r *wire.Reader) { r.Uint() }, []byte{128, 0}, api.ErrForm},
		{"Int", func(r *wire.Reader) { r.Int() }, repeat(255, 10), api.ErrForm},
		{"Bool", func(r *wire.Reader) { r.Bool() }, []byte{2}, api.ErrForm},
		{"Text", func(r *wire.Reader) { r.Text(0) }, nil, api.ErrLimit},
		{"Text of too few bytes", func(r *wire.Reader) { r.Text(50) }, []byte{50}, api.ErrShort},
		{"Ints", func(r *wire.Reader) { r.Ints(0) }, nil, api.ErrLimit},
		{"Ints with an element", func(r *wire.Reader) { r.Ints(2) }, []byte{2, 128, 0}, api.ErrForm},
		{"Fail", func(r *wire.Reader) { r.Fail(api.ErrSum) }, nil, api.ErrSum},
	} {
		r := wire.NewReader(append(slices.Clone(begin.b), good...))
		begin.fail(r)
		for range 2 {
			for _, v := range kinds {
				if got := read(r, v); !isZero(got) || r.Err() != begin.e || r.End() != begin.e {
					t.Errorf("after %s, %T: %v, %d, %d, want %d", begin.name, v, got, r.Err(), r.End(), begin.e)
				}
			}
			if s, l := r.Text(-1), r.Ints(-1); s != "" || len(l) != 0 || r.Err() != begin.e {
				t.Errorf("after %s, with a negative limit: %q, %v, %d", begin.name, s, l, r.Err())
			}
		}
	}
}

// P2.7: the first error other than OK stays.
func TestFail(t *testing.T) {
	r := wire.NewReader([]byte{1, 1})
	r.Fail(api.OK)
	if !r.Bool() || r.Err() != api.OK {
		t.Error("Fail(OK) is an error:", r.Err())
	}
	r.Fail(api.ErrArg)
	r.Fail(api.ErrLimit)
	r.Fail(api.OK)
	if r.Err() != api.ErrArg || r.End() != api.ErrArg {
		t.Error("after Fail:", r.Err(), r.End())
	}
	r = wire.NewReader(nil)
	r.Fail(api.Errno(-77))
	if r.Err() != -77 || r.End() != -77 || r.Uint() != 0 || r.Err() != -77 {
		t.Error("after Fail with a code of no meaning:", r.Err(), r.End())
	}
	r = wire.NewReader(nil)
	r.Uint()
	r.Fail(api.ErrArg)
	if r.Err() != api.ErrShort {
		t.Error("Fail after an error:", r.Err())
	}
}

// P2.7: End with bytes left records nothing, so that they can still be read.
func TestEnd(t *testing.T) {
	r := wire.NewReader([]byte{5, 1, 'a'})
	for range 2 {
		if r.End() != api.ErrForm || r.Err() != api.OK {
			t.Error("with all bytes left:", r.End(), r.Err())
		}
	}
	if n := r.Int(); n != -3 || r.End() != api.ErrForm || r.Err() != api.OK {
		t.Error("with two bytes left:", n, r.End(), r.Err())
	}
	if s := r.Text(1); s != "a" || r.End() != api.OK || r.Err() != api.OK {
		t.Error("with no byte left:", s, r.End(), r.Err())
	}
}

// checkInverse checks P2.8 for a sequence of values.
func checkInverse(t *testing.T, values []value) {
	t.Helper()
	b := encode(values...)
	r := wire.NewReader(b)
	for _, v := range values {
		if got := read(r, v); !same(got, v) {
			t.Fatalf("read %T %v, want %v", got, got, v)
		}
	}
	if r.End() != api.OK {
		t.Fatalf("End after %v: %d", values, r.End())
	}
	for n := range b {
		r := wire.NewReader(b[:n])
		for _, v := range values {
			read(r, v)
		}
		if r.Err() != api.ErrShort || r.End() != api.ErrShort {
			t.Fatalf("a prefix of %d bytes of %v: %d, %d", n, b, r.Err(), r.End())
		}
	}
}

// P2.8: single values, and sequences of them.
func TestInversion(t *testing.T) {
	l := samples()
	for _, v := range l {
		checkInverse(t, []value{v})
	}
	source := rand.New(rand.NewSource(2))
	for range 300 {
		values := make([]value, source.Intn(6))
		for i := range values {
			values[i] = l[source.Intn(len(l))]
		}
		checkInverse(t, values)
	}
}

// P2.8: limits that are just sufficient.
func TestSufficientLimits(t *testing.T) {
	for _, size := range []int{0, 1, 127, 128, 1000} {
		s, l := strings.Repeat("s", size), slices.Repeat([]int{-size}, size)
		b := encode(s, l)
		r := wire.NewReader(b)
		if !same(r.Text(size), s) || !same(r.Ints(size), l) || r.End() != api.OK {
			t.Errorf("size %d: %d", size, r.End())
		}
		r = wire.NewReader(b)
		if r.Text(size-1) != "" || r.Err() != api.ErrLimit {
			t.Errorf("a string of %d bytes: %d", size, r.Err())
		}
		r = wire.NewReader(b)
		r.Text(size)
		if len(r.Ints(size-1)) != 0 || r.Err() != api.ErrLimit {
			t.Errorf("a list of %d numbers: %d", size, r.Err())
		}
	}
}

// eachShort calls use with each sequence of at most 5 of the bytes at which encodings differ.
func eachShort(use func(b []byte)) {
	alphabet := []byte{0, 1, 2, 3, 127, 128, 129, 255}
	level := [][]byte{nil}
	for range 6 {
		var next [][]byte
		for _, b := range level {
			use(b)
			for _, c := range alphabet {
				next = append(next, append(slices.Clone(b), c))
			}
		}
		level = next
	}
}

// P2.9: bytes that are read as one or two values without an error are what writing them yields.
func TestOneEncoding(t *testing.T) {
	accepted := 0
	eachShort(func(b []byte) {
		for _, first := range kinds {
			for _, second := range append([]value{nil}, kinds...) {
				r := wire.NewReader(b)
				values := []value{read(r, first)}
				if second != nil {
					values = append(values, read(r, second))
				}
				if r.End() != api.OK {
					continue
				}
				accepted++
				if got := encode(values...); !bytes.Equal(got, b) {
					t.Errorf("%v is read as %v, which is written as %v", b, values, got)
				}
			}
		}
	})
	if accepted < 1000 {
		t.Error("only", accepted, "encodings were read without an error")
	}
}

// P2.9: of the numbers of 10 bytes, each is accepted once at most.
func TestOneEncodingOfLongNumbers(t *testing.T) {
	for _, head := range [][]byte{repeat(128, 8), repeat(255, 8), repeat(129, 8)} {
		for ninth := range 256 {
			for tenth := range 256 {
				b := append(slices.Clone(head), byte(ninth), byte(tenth))
				r := wire.NewReader(b)
				n := r.Uint()
				if r.End() == api.OK && !bytes.Equal(encode(n), b) {
					t.Fatalf("%v is read as %d, which is written as %v", b, n, encode(n))
				}
				if fits := ninth >= 128 && tenth == 1; (r.End() == api.OK) != fits {
					t.Fatalf("%v: %d", b, r.End())
				}
			}
		}
	}
}

// P2.10: of two different values of one kind, neither has an encoding that the other one's begins with.
func TestPrefixes(t *testing.T) {
	l := samples()
	for _, v := range l {
		for _, u := range l {
			if reflect.TypeOf(u) == reflect.TypeOf(v) && !same(u, v) && bytes.HasPrefix(encode(v), encode(u)) {
				t.Errorf("%T: the encoding of %v begins with that of %v", v, v, u)
			}
		}
	}
}

// P2.3 to P2.7, R5: two readers of the same bytes are independent of each other.
func TestReadersAreIndependent(t *testing.T) {
	b := encode(1, 2)
	x, y := wire.NewReader(b), wire.NewReader(b)
	x.Fail(api.ErrArg)
	if y.Err() != api.OK || y.Int() != 1 || y.Int() != 2 || y.End() != api.OK {
		t.Error("a reader depends on another one:", y.Err())
	}
}
