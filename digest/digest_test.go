package digest_test

import (
	"bytes"
	"crypto/sha256"
	"encoding/binary"
	"slices"
	"strings"
	"testing"

	"rollbook/api"
	"rollbook/digest"
)

// pattern returns n bytes that repeat with no period that divides the size of a block.
func pattern(n int) []byte {
	b := make([]byte, n)
	for i := range b {
		b[i] = byte(i*i + i/251)
	}
	return b
}

// padded returns b as the chapter pads it, written without the package.
func padded(b []byte, length int) []byte {
	p := append(slices.Clone(b), 128)
	for len(p)%64 != 56 {
		p = append(p, 0)
	}
	return binary.BigEndian.AppendUint64(p, 8*uint64(length))
}

// wordBytes returns the bytes of chaining values.
func wordBytes(h [8]uint32) api.Hash {
	var b []byte
	for _, w := range h {
		b = binary.BigEndian.AppendUint32(b, w)
	}
	return api.Hash(b)
}

func sameState(a, b api.Digest) bool {
	return a.H == b.H && bytes.Equal(a.Tail, b.Tail) && a.Len == b.Len
}

// P1.1: the examples of the chapter and of the standard.
func TestSumOfKnownTexts(t *testing.T) {
	for _, c := range []struct{ text, want string }{
		{"", "e3b0c44298fc1c149afbf4c8996fb92427ae41e4649b934ca495991b7852b855"},
		{"abc", "ba7816bf8f01cfea414140de5dae2223b00361a396177a9cb410ff61f20015ad"},
		{"abcdbcdecdefdefgefghfghighijhijkijkljklmklmnlmnomnopnopq", "248d6a61d20638b8e5c026930c3e6039a33ce45964ff2167f6ecedd419db06c1"},
		{strings.Repeat("a", 64), "ffe054fe7ae0cb6dc65c3af9b61d5209f439851db43d0ba5997337df154668eb"},
		{strings.Repeat("a", 1000000), "cdc76e5c9914fb9281a1c7e284d73e67f1809a48a497200e046d39ccc7112cd0"},
	} {
		if got := digest.Hex(digest.Sum([]byte(c.text))); got != c.want {
			t.Errorf("Sum of %d bytes: %s, want %s", len(c.text), got, c.want)
		}
	}
}

// P1.1: all lengths around the ends of blocks, against the standard library.
func TestSumOfAllLengths(t *testing.T) {
	b := pattern(400)
	for n := range b {
		if got, want := digest.Sum(b[:n]), api.Hash(sha256.Sum256(b[:n])); got != want {
			t.Errorf("Sum of %d bytes: %x, want %x", n, got, want)
		}
	}
}

// P1.2: the state after no bytes.
func TestNew(t *testing.T) {
	first := [8]uint32{0x6a09e667, 0xbb67ae85, 0x3c6ef372, 0xa54ff53a, 0x510e527f, 0x9b05688c, 0x1f83d9ab, 0x5be0cd19}
	if d := digest.New(); !sameState(d, api.Digest{H: first}) {
		t.Error("New:", d)
	}
	if got := digest.Close(digest.New()); got != digest.Sum(nil) {
		t.Errorf("Close of New: %x", got)
	}
}

// P1.2: the chaining values are those after the full blocks: after a padded text they are its hash value, and an incomplete block does not change them.
func TestChainingValues(t *testing.T) {
	b := pattern(200)
	for n := range b {
		d := digest.Write(digest.New(), padded(b[:n], n))
		if wordBytes(d.H) != sha256.Sum256(b[:n]) || len(d.Tail) != 0 {
			t.Errorf("state after %d padded bytes: %v", n, d)
		}
		if more := digest.Write(d, b[:63]); more.H != d.H {
			t.Errorf("an incomplete block changes the chaining values after %d bytes", n)
		}
	}
}

// P1.2, P1.6: two and three parts, of which some are empty.
func TestParts(t *testing.T) {
	b := pattern(200)
	whole := digest.Write(digest.New(), b)
	for i := range len(b) + 1 {
		head := digest.Write(digest.New(), b[:i])
		if d := digest.Write(head, b[i:]); !sameState(d, whole) || digest.Close(d) != digest.Sum(b) {
			t.Errorf("parts of %d and %d bytes: %v, want %v", i, len(b)-i, d, whole)
		}
		middle := i + (len(b)-i)/2
		d := digest.Write(digest.Write(digest.Write(head, b[i:middle]), nil), b[middle:])
		if !sameState(d, whole) {
			t.Errorf("parts that end at %d and %d: %v, want %v", i, middle, d, whole)
		}
	}
}

// P1.6: parts of one size.
func TestEqualParts(t *testing.T) {
	b := pattern(1000)
	whole := digest.Write(digest.New(), b)
	for _, size := range []int{1, 3, 55, 63, 64, 65, 127, 128, 999} {
		d := digest.New()
		for part := range slices.Chunk(b, size) {
			d = digest.Write(d, part)
		}
		if !sameState(d, whole) || digest.Close(d) != sha256.Sum256(b) {
			t.Errorf("parts of %d bytes: %v, want %v", size, d, whole)
		}
	}
}

// P1.7: the tail and the length, after each number of bytes.
func TestTail(t *testing.T) {
	b := pattern(300)
	d := digest.New()
	for n := range len(b) + 1 {
		if d.Len != n || !bytes.Equal(d.Tail, b[n-n%64:n]) {
			t.Fatalf("state after %d bytes: %v", n, d)
		}
		if n < len(b) {
			d = digest.Write(d, b[n:n+1])
		}
	}
}

// P1.2: Close leaves the state as it is, so that it can be written to.
func TestWriteAfterClose(t *testing.T) {
	b := pattern(150)
	for n := range b {
		d := digest.Write(digest.New(), b[:n])
		first, again := digest.Close(d), digest.Close(d)
		if first != again || first != digest.Sum(b[:n]) {
			t.Errorf("Close after %d bytes: %x, then %x", n, first, again)
		}
		if got := digest.Close(digest.Write(d, b[n:])); got != digest.Sum(b) {
			t.Errorf("Close after %d bytes and the others: %x", n, got)
		}
	}
}

// P1.1: the number of bits takes 8 bytes: for 2^29 bytes and more it does not fit in 32 bits.
func TestLengthsBeyond32Bits(t *testing.T) {
	for _, n := range []int{1<<29 - 1, 1 << 29, 1<<29 + 60, 1<<31 - 1} {
		d := api.Digest{H: digest.New().H, Tail: pattern(n % 64), Len: n}
		end := padded(d.Tail, n)[len(d.Tail):]
		if got, want := digest.Close(d), wordBytes(digest.Write(d, end).H); got != want {
			t.Errorf("Close after %d bytes: %x, want %x", n, got, want)
		}
	}
}

// P1.2, R4: states share no memory with each other or with what was written.
func TestStatesShareNothing(t *testing.T) {
	b := pattern(70)
	base := digest.Write(digest.New(), b)
	want := bytes.Clone(base.Tail)
	clear(b)
	if !bytes.Equal(base.Tail, want) {
		t.Error("Write keeps its argument")
	}
	base.Tail = append(make([]byte, 0, 64), base.Tail...)
	spare := bytes.Clone(base.Tail[:64])
	x, y := digest.Write(base, []byte("x")), digest.Write(base, []byte("y"))
	if x.Tail[6] != 'x' || y.Tail[6] != 'y' || !bytes.Equal(base.Tail[:64], spare) {
		t.Error("Write shares the tail:", x, y, base)
	}
	digest.Close(base)
	same := digest.Write(base, nil)
	clear(same.Tail)
	if !bytes.Equal(base.Tail[:64], spare) {
		t.Error("Close or an empty Write shares the tail:", base)
	}
}

// P1.1, P1.3, R4: spare capacity behind an argument stays as it is.
func TestArgumentsStay(t *testing.T) {
	room := pattern(100)
	want := bytes.Clone(room)
	digest.Sum(room[:10])
	digest.Leaf(room[:10])
	digest.Write(digest.New(), room[:70])
	if !bytes.Equal(room, want) {
		t.Error("an argument was changed")
	}
}

// P1.3: the examples of the chapter.
func TestLeafAndNodeExamples(t *testing.T) {
	for _, c := range []struct {
		name string
		got  api.Hash
		want string
	}{
		{"Leaf of no bytes", digest.Leaf(nil), "6e340b9cffb37a989ca544e6bb780a2c78901d3fb33738768511a30617afa01d"},
		{"Leaf of abc", digest.Leaf([]byte("abc")), "609f6e36d2405585188d5cfd761f407c7cc46a7d3f314c88270469dde315fcd1"},
		{"Node of zeros", digest.Node(api.Hash{}, api.Hash{}), "ae0798d0ecaed2b778eddebf18f071a561c53658c05e76cedecc27cafbdbc577"},
	} {
		if got := digest.Hex(c.got); got != c.want {
			t.Errorf("%s: %s, want %s", c.name, got, c.want)
		}
	}
}

// P1.3, P1.9: leaves and nodes are sums, which can be computed by parts.
func TestLeafAndNodeAreSums(t *testing.T) {
	b := pattern(200)
	for n := range b {
		framed := append([]byte{0}, b[:n]...)
		parts := digest.Write(digest.Write(digest.New(), framed[:1]), framed[1:])
		if got := digest.Leaf(b[:n]); got != digest.Sum(framed) || got != digest.Close(parts) {
			t.Errorf("Leaf of %d bytes: %x", n, got)
		}
	}
	x, y := digest.Sum([]byte("x")), digest.Sum([]byte("y"))
	parts := digest.New()
	for _, part := range [][]byte{{1}, x[:], y[:]} {
		parts = digest.Write(parts, part)
	}
	if got := digest.Node(x, y); parts.Len != 65 || got != digest.Close(parts) {
		t.Errorf("Node: %x", got)
	}
	if digest.Node(x, y) == digest.Node(y, x) {
		t.Error("Node does not depend on the order")
	}
}

// P1.4: each byte has two digits, the more significant one first.
func TestHex(t *testing.T) {
	var low, high api.Hash
	for i := range low {
		low[i], high[i] = byte(i), byte(255-i)
	}
	for _, c := range []struct {
		h    api.Hash
		want string
	}{
		{api.Hash{}, strings.Repeat("0", 64)},
		{low, "000102030405060708090a0b0c0d0e0f101112131415161718191a1b1c1d1e1f"},
		{high, "fffefdfcfbfaf9f8f7f6f5f4f3f2f1f0efeeedecebeae9e8e7e6e5e4e3e2e1e0"},
	} {
		if got := digest.Hex(c.h); got != c.want {
			t.Errorf("Hex: %s, want %s", got, c.want)
		}
	}
}

// P1.5, P1.8: Parse inverts Hex, for each value of a byte at each place.
func TestParseOfHex(t *testing.T) {
	for i := range 32 {
		for b := range 256 {
			var h api.Hash
			h[i] = byte(b)
			if got, e := digest.Parse(digest.Hex(h)); e != api.OK || got != h {
				t.Fatalf("Parse(%s): %x, %v", digest.Hex(h), got, e)
			}
		}
	}
}

// P1.5: no other length is accepted.
func TestParseRejectsLengths(t *testing.T) {
	for n := range 130 {
		if n != 64 {
			expectForm(t, strings.Repeat("0", n))
		}
	}
}

// P1.5, P1.8, R2: at each place exactly the 16 digits are accepted; the digits before a wrong one leave nothing in the result.
func TestParseRejectsOtherBytes(t *testing.T) {
	ones := strings.Repeat("1", 64)
	for i := range 64 {
		for b := range 256 {
			s := ones[:i] + string([]byte{byte(b)}) + ones[i+1:]
			if !strings.Contains("0123456789abcdef", s[i:i+1]) {
				expectForm(t, s)
			} else if h, e := digest.Parse(s); e != api.OK || digest.Hex(h) != s {
				t.Errorf("Parse(%q): %x, %v", s, h, e)
			}
		}
	}
}

func expectForm(t *testing.T, s string) {
	t.Helper()
	if h, e := digest.Parse(s); e != api.ErrForm || h != (api.Hash{}) {
		t.Errorf("Parse(%q): %x, %v", s, h, e)
	}
}
