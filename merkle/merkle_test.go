package merkle_test

import (
	"crypto/sha256"
	"encoding/hex"
	"math"
	"math/bits"
	"slices"
	"strconv"
	"testing"

	"rollbook/api"
	"rollbook/digest"
	"rollbook/merkle"
)

// leaves returns n different leaves.
func leaves(n int) []api.Hash {
	l := make([]api.Hash, n)
	for i := range l {
		l[i] = sha256.Sum256([]byte("leaf " + strconv.Itoa(i)))
	}
	return l
}

// node returns the Node of two hash values, computed without the project.
func node(a, b api.Hash) api.Hash {
	return sha256.Sum256(slices.Concat([]byte{1}, a[:], b[:]))
}

// empty returns the root of no leaves.
func empty() api.Hash { return sha256.Sum256(nil) }

// levels returns the nodes of a tree, from the leaves up: those of a level are joined two by two, and one that is left over goes up as it is.
// (The chapter describes the same trees from the root down.)
func levels(l []api.Hash) [][]api.Hash {
	all := [][]api.Hash{l}
	for len(l) > 1 {
		var up []api.Hash
		for pair := range slices.Chunk(l, 2) {
			if len(pair) == 2 {
				pair = []api.Hash{node(pair[0], pair[1])}
			}
			up = append(up, pair[0])
		}
		l = up
		all = append(all, l)
	}
	return all
}

// rootOf returns the root of some leaves.
func rootOf(l []api.Hash) api.Hash {
	if len(l) == 0 {
		return empty()
	}
	all := levels(l)
	return all[len(all)-1][0]
}

// pathOf returns the path of leaf i: what stands beside it on each level.
func pathOf(l []api.Hash, i int) []api.Hash {
	var path []api.Hash
	for _, level := range levels(l) {
		if beside := i ^ 1; beside < len(level) {
			path = append(path, level[beside])
		}
		i /= 2
	}
	return path
}

// growthOf returns the growth from m leaves, from the leaves up: the greatest block at the end of the m leaves, unless it is all of them, and what stands beside it on each level.
func growthOf(l []api.Hash, m int) []api.Hash {
	if m == 0 || m == len(l) {
		return nil
	}
	all := levels(l)
	level := bits.TrailingZeros(uint(m))
	i := m>>level - 1
	var path []api.Hash
	if i > 0 {
		path = append(path, all[level][i])
	}
	for ; level < len(all); level++ {
		if beside := i ^ 1; beside < len(all[level]) {
			path = append(path, all[level][beside])
		}
		i /= 2
	}
	return path
}

// included verifies a path from the leaf up, as RFC 9162 (section 2.1.3.2) does.
func included(root api.Hash, n, i int, leaf api.Hash, path []api.Hash) bool {
	if i < 0 || i >= n || n > 65536 {
		return false
	}
	at, last, value := i, n-1, leaf
	for _, p := range path {
		if last == 0 {
			return false
		}
		if at%2 == 1 || at == last {
			value = node(p, value)
			for at%2 == 0 && at > 0 {
				at, last = at/2, last/2
			}
		} else {
			value = node(value, p)
		}
		at, last = at/2, last/2
	}
	return last == 0 && value == root
}

// extended verifies a growth from the leaves up, as RFC 9162 (section 2.1.4.2) does for 0 < m < n.
func extended(old api.Hash, m int, root api.Hash, n int, path []api.Hash) bool {
	switch {
	case m < 0 || m > n || n > 65536:
		return false
	case m == 0 && n == 0:
		return old == empty() && root == empty() && len(path) == 0
	case m == 0:
		return old == empty() && len(path) == 0
	case m == n:
		return old == root && len(path) == 0
	}
	if m&(m-1) == 0 {
		path = slices.Concat([]api.Hash{old}, path)
	}
	if len(path) == 0 {
		return false
	}
	at, last := m-1, n-1
	for at%2 == 1 {
		at, last = at/2, last/2
	}
	first, second := path[0], path[0]
	for _, p := range path[1:] {
		if last == 0 {
			return false
		}
		if at%2 == 1 || at == last {
			first, second = node(p, first), node(p, second)
			for at%2 == 0 && at > 0 {
				at, last = at/2, last/2
			}
		} else {
			second = node(second, p)
		}
		at, last = at/2, last/2
	}
	return last == 0 && first == old && second == root
}

// lengths are numbers of leaves: all small ones, and those around powers of two.
func lengths(small, most int) []int {
	var l []int
	for n := range small {
		l = append(l, n)
	}
	for n := 2; n <= most; n *= 2 {
		for _, near := range []int{n - 1, n, n + 1, n + n/2 + 1} {
			if near >= small && near <= most {
				l = append(l, near)
			}
		}
	}
	return l
}

// P7.1: the definition, written out.
func TestRootOfFewLeaves(t *testing.T) {
	l := leaves(9)
	a, b, c, d, e, f, g, h, i := l[0], l[1], l[2], l[3], l[4], l[5], l[6], l[7], l[8]
	four := node(node(a, b), node(c, d))
	for n, want := range []api.Hash{
		empty(), a, node(a, b), node(node(a, b), c), four, node(four, e), node(four, node(e, f)), node(four, node(node(e, f), g)),
		node(four, node(node(e, f), node(g, h))), node(node(four, node(node(e, f), node(g, h))), i),
	} {
		if got := merkle.Root(l[:n]); got != want {
			t.Errorf("Root of %d leaves: %x, want %x", n, got, want)
		}
	}
	if got := merkle.Root(nil); got != digest.Sum(nil) {
		t.Errorf("Root of nil: %x", got)
	}
	if got := merkle.Root([]api.Hash{{}}); got != (api.Hash{}) {
		t.Errorf("Root of a leaf of zero bytes: %x", got)
	}
}

// published are the entries of the tree that implementations of RFC 6962 are commonly tested with, and its roots after each entry.
var published = []struct{ entry, root string }{
	{"", "6e340b9cffb37a989ca544e6bb780a2c78901d3fb33738768511a30617afa01d"},
	{"00", "fac54203e7cc696cf0dfcb42c92a1d9dbaf70ad9e621f4bd8d98662f00e3c125"},
	{"10", "aeb6bcfe274b70a14fb067a5e5578264db0fa9b51af5e0ba159158f329e06e77"},
	{"2021", "d37ee418976dd95753c1c73862b9398fa2a2cf9b4ff0fdfe8b30cd95209614b7"},
	{"3031", "4e3bbb1f7b478dcfe71fb631631519a3bca12c9aefca1612bfce4c13a86264d4"},
	{"40414243", "76e67dadbcdf1e10e1b74ddc608abd2f98dfb16fbce75277b5232a127f2087ef"},
	{"5051525354555657", "ddb89be403809e325750d3d263cd78929c2942b7942a34b77e122c9594a74c8c"},
	{"606162636465666768696a6b6c6d6e6f", "5dc9da79a70659a9ad559cb701ded9a2ab9d823aad2f4960cfe370eff4604328"},
}

// P7.1, P7.6: leaves that digest.Leaf makes, as in RFC 6962.
func TestPublishedRoots(t *testing.T) {
	var l []api.Hash
	var f api.Frontier
	for _, p := range published {
		entry, err := hex.DecodeString(p.entry)
		if err != nil {
			t.Fatal(err)
		}
		l = append(l, digest.Leaf(entry))
		f = merkle.Append(f, digest.Leaf(entry))
		if got := digest.Hex(merkle.Root(l)); got != p.root {
			t.Errorf("Root of %d entries: %s, want %s", len(l), got, p.root)
		}
		if got := digest.Hex(merkle.Top(f)); got != p.root {
			t.Errorf("Top of %d entries: %s, want %s", len(l), got, p.root)
		}
	}
}

// P7.1: many numbers of leaves, up to the greatest one.
func TestRootOfManyLeaves(t *testing.T) {
	l := leaves(65536)
	for _, n := range append(lengths(300, 5000), 65535, 65536) {
		if got, want := merkle.Root(l[:n]), rootOf(l[:n]); got != want {
			t.Errorf("Root of %d leaves: %x, want %x", n, got, want)
		}
	}
}

// P7.1: leaves need not be different.
func TestEqualLeaves(t *testing.T) {
	l := make([]api.Hash, 70)
	for n := range l {
		if got, want := merkle.Root(l[:n]), rootOf(l[:n]); got != want {
			t.Errorf("Root of %d equal leaves: %x, want %x", n, got, want)
		}
		for i := range n {
			path, e := merkle.Path(l[:n], i)
			if e != api.OK || !slices.Equal(path, pathOf(l[:n], i)) || !merkle.Includes(merkle.Root(l[:n]), n, i, l[i], path) {
				t.Errorf("Path of leaf %d of %d equal ones: %x, %v", i, n, path, e)
			}
		}
	}
}

// P7.2, P7.4: the examples of the chapter, and those of RFC 6962 (section 2.1.3) with its names of the nodes.
func TestProofExamples(t *testing.T) {
	x := leaves(7)
	a, b, c, d, e, f, j := x[0], x[1], x[2], x[3], x[4], x[5], x[6]
	g, h, i := node(a, b), node(c, d), node(e, f)
	k, l := node(g, h), node(i, j)
	for _, p := range []struct {
		n, i int
		want []api.Hash
	}{
		{1, 0, nil}, {2, 0, []api.Hash{b}}, {2, 1, []api.Hash{a}},
		{3, 0, []api.Hash{b, c}}, {3, 1, []api.Hash{a, c}}, {3, 2, []api.Hash{g}},
		{7, 0, []api.Hash{b, h, l}}, {7, 3, []api.Hash{c, g, l}}, {7, 4, []api.Hash{f, j, k}}, {7, 6, []api.Hash{i, k}},
	} {
		if got, e := merkle.Path(x[:p.n], p.i); e != api.OK || !slices.Equal(got, p.want) {
			t.Errorf("Path of leaf %d of %d: %x, %v, want %x", p.i, p.n, got, e, p.want)
		}
	}
	for _, p := range []struct {
		m, n int
		want []api.Hash
	}{
		{0, 0, nil}, {0, 1, nil}, {0, 3, nil}, {1, 1, nil}, {1, 2, []api.Hash{b}}, {1, 3, []api.Hash{b, c}}, {2, 3, []api.Hash{c}}, {3, 3, nil},
		{3, 4, []api.Hash{c, d, g}}, {3, 7, []api.Hash{c, d, g, l}}, {4, 7, []api.Hash{l}}, {6, 7, []api.Hash{i, j, k}}, {5, 7, []api.Hash{e, f, j, k}}, {7, 7, nil},
	} {
		if got, e := merkle.Growth(x[:p.n], p.m); e != api.OK || !slices.Equal(got, p.want) {
			t.Errorf("Growth from %d to %d: %x, %v, want %x", p.m, p.n, got, e, p.want)
		}
	}
}

// P7.2, P7.3, P7.7: every leaf of many lists.
func TestPaths(t *testing.T) {
	l := leaves(600)
	for _, n := range lengths(130, len(l)) {
		root := merkle.Root(l[:n])
		for i := range n {
			path, e := merkle.Path(l[:n], i)
			if e != api.OK || !slices.Equal(path, pathOf(l[:n], i)) {
				t.Fatalf("Path of leaf %d of %d: %x, %v", i, n, path, e)
			}
			if !merkle.Includes(root, n, i, l[i], path) {
				t.Fatalf("Includes rejects the path of leaf %d of %d", i, n)
			}
		}
	}
}

// P7.2: indexes without a leaf; R2: nothing else is returned.
func TestPathErrors(t *testing.T) {
	l := leaves(70)
	for n := range l {
		for _, i := range []int{-1, -2, n, n + 1, 64, 1 << 20, math.MinInt, math.MaxInt} {
			if i >= 0 && i < n {
				continue
			}
			if path, e := merkle.Path(l[:n], i); e != api.ErrRange || len(path) > 0 {
				t.Errorf("Path of leaf %d of %d: %x, %v", i, n, path, e)
			}
		}
	}
}

// P7.2, P7.3, P7.4, P7.5, P7.7: proofs for the greatest number of leaves, and none for more.
func TestMostLeaves(t *testing.T) {
	l := leaves(65537)
	root, n := rootOf(l[:65536]), 65536
	for _, i := range []int{0, 1, 4095, 32767, 32768, 65534, 65535} {
		path, e := merkle.Path(l[:n], i)
		if e != api.OK || len(path) != 16 || !slices.Equal(path, pathOf(l[:n], i)) || !merkle.Includes(root, n, i, l[i], path) {
			t.Errorf("Path of leaf %d of %d: %d elements, %v", i, n, len(path), e)
		}
	}
	for _, m := range []int{0, 1, 2, 3, 21845, 32767, 32768, 32769, 65535, 65536} {
		path, e := merkle.Growth(l[:n], m)
		if e != api.OK || !slices.Equal(path, growthOf(l[:n], m)) || !merkle.Extends(rootOf(l[:m]), m, root, n, path) {
			t.Errorf("Growth from %d to %d: %d elements, %v", m, n, len(path), e)
		}
	}
	above := rootOf(l)
	for _, i := range []int{0, 65535, 65536} {
		if merkle.Includes(above, 65537, i, l[i], pathOf(l, i)) {
			t.Errorf("Includes accepts leaf %d of 65537", i)
		}
	}
	for _, m := range []int{0, 1, 3, 65536, 65537} {
		if merkle.Extends(rootOf(l[:m]), m, above, 65537, growthOf(l, m)) {
			t.Errorf("Extends accepts the growth from %d to 65537", m)
		}
	}
}

// P7.3, P7.5: numbers for which there is nothing to prove.
func TestImpossibleNumbers(t *testing.T) {
	l := leaves(3)
	for _, n := range []int{math.MinInt, -65536, -1, 0, 1, 2, 3, 65536, 65537, math.MaxInt} {
		for _, i := range []int{math.MinInt, -1, 0, 1, 2, 3, 65535, 65536, math.MaxInt - 1, math.MaxInt} {
			for _, path := range [][]api.Hash{nil, l[:1], l} {
				if (i < 0 || i >= n || n > 65536) && merkle.Includes(l[0], n, i, l[0], path) {
					t.Errorf("Includes accepts leaf %d of %d", i, n)
				}
				if (i < 0 || i > n || n > 65536) && (merkle.Extends(l[0], i, l[0], n, path) || merkle.Extends(empty(), i, empty(), n, path)) {
					t.Errorf("Extends accepts the growth from %d to %d", i, n)
				}
			}
		}
	}
}

// P7.3: the path of the only leaf of a list is empty.
func TestOnlyLeaf(t *testing.T) {
	l := leaves(3)
	for _, c := range []struct {
		root, leaf api.Hash
		path       []api.Hash
		want       bool
	}{
		{l[0], l[0], nil, true}, {api.Hash{}, api.Hash{}, nil, true}, {l[0], l[0], []api.Hash{}, true},
		{l[0], l[1], nil, false}, {l[0], l[0], l[:1], false}, {l[0], l[0], make([]api.Hash, 1), false}, {node(l[0], l[1]), l[0], l[1:2], false},
	} {
		if got := merkle.Includes(c.root, 1, 0, c.leaf, c.path); got != c.want {
			t.Errorf("Includes(%x, 1, 0, %x, %x): %v", c.root, c.leaf, c.path, got)
		}
	}
}

// distorted returns lists that differ from a path: with one element more, one less, two elements exchanged, one bit of an element changed.
func distorted(path []api.Hash) [][]api.Hash {
	zero := api.Hash{}
	all := [][]api.Hash{slices.Concat(path, []api.Hash{zero}), slices.Concat([]api.Hash{zero}, path)}
	for i := range path {
		all = append(all, slices.Concat(path[:i], path[i+1:]), slices.Concat(path[:i], path[i:i+1], path[i:]), path[:i])
		for j := range i {
			if path[i] != path[j] {
				l := slices.Clone(path)
				l[i], l[j] = l[j], l[i]
				all = append(all, l)
			}
		}
		for _, bit := range []int{0, 7, 100, 255} {
			l := slices.Clone(path)
			l[i] = flipped(l[i], bit)
			all = append(all, l)
		}
	}
	return all
}

// flipped returns a hash value with one bit changed.
func flipped(h api.Hash, bit int) api.Hash {
	h[bit/8] ^= 1 << (bit % 8)
	return h
}

// P7.3, P7.9: another leaf, root or path is not accepted.
func TestIncludesRejects(t *testing.T) {
	l := leaves(70)
	for _, n := range []int{1, 2, 3, 4, 5, 6, 7, 8, 9, 16, 17, 31, 33, 64, 65, 70} {
		root := rootOf(l[:n])
		for i := range n {
			path := pathOf(l[:n], i)
			for j, other := range l {
				if j != i && merkle.Includes(root, n, i, other, path) {
					t.Fatalf("leaf %d of %d: Includes accepts leaf %d", i, n, j)
				}
			}
			for bit := range 256 {
				if merkle.Includes(root, n, i, flipped(l[i], bit), path) || merkle.Includes(flipped(root, bit), n, i, l[i], path) {
					t.Fatalf("leaf %d of %d: Includes accepts a change of bit %d", i, n, bit)
				}
			}
			for _, other := range distorted(path) {
				if merkle.Includes(root, n, i, l[i], other) {
					t.Fatalf("leaf %d of %d: Includes accepts %x instead of %x", i, n, other, path)
				}
			}
		}
	}
}

// P7.3: each path of each tree, and the values that result from its first elements, under each number and index, compared with another verifier. (Some are accepted: the number is not always part of the proof.)
func TestIncludesOfOtherPlaces(t *testing.T) {
	l := leaves(18)
	accepted, rejected := 0, 0
	for n := range len(l) {
		for i := range n {
			path := pathOf(l[:n], i)
			for cut := range len(path) + 1 {
				for number := range 20 {
					for index := -1; index <= number; index++ {
						for _, root := range []api.Hash{rootOf(l[:n]), rootOf(l[:number%18])} {
							want := included(root, number, index, l[i], path[:cut])
							if got := merkle.Includes(root, number, index, l[i], path[:cut]); got != want {
								t.Fatalf("%d elements of the path of leaf %d of %d, as leaf %d of %d: %v", cut, i, n, index, number, got)
							}
							if want {
								accepted++
							} else {
								rejected++
							}
						}
					}
				}
			}
		}
	}
	if accepted < 1000 || rejected < 1000 {
		t.Errorf("%d accepted, %d rejected", accepted, rejected)
	}
}

// resultsOf returns the value that results from a path of any elements, by the definition of P7.3; false if the number of elements is wrong.
func resultsOf(n, i int, leaf api.Hash, path []api.Hash) (api.Hash, bool) {
	if n == 1 {
		return leaf, len(path) == 0
	}
	if len(path) == 0 {
		return api.Hash{}, false
	}
	k := 1
	for 2*k < n {
		k *= 2
	}
	s, rest := path[len(path)-1], path[:len(path)-1]
	if i < k {
		c, ok := resultsOf(k, i, leaf, rest)
		return node(c, s), ok
	}
	c, ok := resultsOf(n-k, i-k, leaf, rest)
	return node(s, c), ok
}

// P7.3: any elements are a path to the root that results from them: no tree needs to be there.
func TestIncludesAnyElements(t *testing.T) {
	elements := leaves(9)
	for n := 1; n < 70; n++ {
		for i := range n {
			fits := 0
			for length := range elements {
				path := elements[1 : 1+length]
				root, ok := resultsOf(n, i, elements[0], path)
				if ok {
					fits++
				}
				if got := merkle.Includes(root, n, i, elements[0], path); got != ok {
					t.Fatalf("%d elements as the path of leaf %d of %d: %v", length, i, n, got)
				}
			}
			if fits != 1 {
				t.Fatalf("leaf %d of %d: paths of %d lengths", i, n, fits)
			}
		}
	}
}

// P7.4, P7.5, P7.7: all numbers of leaves of many lists.
func TestGrowths(t *testing.T) {
	l := leaves(300)
	for _, n := range lengths(100, len(l)) {
		root := rootOf(l[:n])
		for m := range n + 1 {
			path, e := merkle.Growth(l[:n], m)
			if e != api.OK || !slices.Equal(path, growthOf(l[:n], m)) {
				t.Fatalf("Growth from %d to %d: %x, %v", m, n, path, e)
			}
			if !merkle.Extends(rootOf(l[:m]), m, root, n, path) {
				t.Fatalf("Extends rejects the growth from %d to %d", m, n)
			}
		}
	}
}

// P7.4: numbers that are not there; R2: nothing else is returned.
func TestGrowthErrors(t *testing.T) {
	l := leaves(70)
	for n := range l {
		for _, m := range []int{-1, -2, n + 1, n + 2, 1 << 20, math.MinInt, math.MaxInt} {
			if path, e := merkle.Growth(l[:n], m); e != api.ErrRange || len(path) > 0 {
				t.Errorf("Growth from %d to %d: %x, %v", m, n, path, e)
			}
		}
	}
}

// P7.5: the growth from no leaves.
func TestExtendsFromNothing(t *testing.T) {
	l := leaves(3)
	for _, n := range []int{0, 1, 2, 3, 64, 65, 65535, 65536} {
		for _, root := range []api.Hash{empty(), l[0], rootOf(l), {}} {
			want := n > 0 || root == empty()
			if got := merkle.Extends(empty(), 0, root, n, nil); got != want {
				t.Errorf("from 0 to %d leaves with the root %x: %v", n, root, got)
			}
			for _, old := range []api.Hash{l[0], {}, rootOf(l), flipped(empty(), 0), flipped(empty(), 255)} {
				if merkle.Extends(old, 0, root, n, nil) {
					t.Errorf("from 0 leaves with the root %x to %d with the root %x: true", old, n, root)
				}
			}
			for _, path := range [][]api.Hash{{root}, {empty()}, {l[0], l[1]}, make([]api.Hash, 1)} {
				if merkle.Extends(empty(), 0, root, n, path) {
					t.Errorf("from 0 to %d leaves with the root %x by %x: true", n, root, path)
				}
			}
		}
	}
}

// P7.5: the growth to the same number of leaves: the roots may have any value.
func TestExtendsToTheSame(t *testing.T) {
	l := leaves(3)
	for _, n := range []int{1, 2, 3, 4, 5, 64, 65, 65535, 65536} {
		for _, root := range []api.Hash{empty(), l[0], rootOf(l), {}} {
			if !merkle.Extends(root, n, root, n, nil) || !merkle.Extends(root, n, root, n, []api.Hash{}) {
				t.Errorf("from %d to %d leaves: false", n, n)
			}
			if merkle.Extends(root, n, flipped(root, 3), n, nil) || merkle.Extends(flipped(root, 250), n, root, n, nil) {
				t.Errorf("from %d to %d leaves with another root: true", n, n)
			}
			for _, path := range [][]api.Hash{{root}, {{}}, {root, root}} {
				if merkle.Extends(root, n, root, n, path) {
					t.Errorf("from %d to %d leaves by %x: true", n, n, path)
				}
			}
		}
	}
}

// P7.5, P7.9: other roots or paths are not accepted.
func TestExtendsRejects(t *testing.T) {
	l := leaves(40)
	for _, n := range []int{2, 3, 4, 5, 6, 7, 8, 9, 15, 16, 17, 31, 32, 33, 40} {
		root := rootOf(l[:n])
		for m := 1; m < n; m++ {
			old, path := rootOf(l[:m]), growthOf(l[:n], m)
			for bit := range 256 {
				if merkle.Extends(flipped(old, bit), m, root, n, path) || merkle.Extends(old, m, flipped(root, bit), n, path) {
					t.Fatalf("from %d to %d: Extends accepts a change of bit %d", m, n, bit)
				}
			}
			if merkle.Extends(root, m, old, n, path) || merkle.Extends(old, m, old, n, path) || merkle.Extends(root, m, root, n, path) {
				t.Fatalf("from %d to %d: Extends accepts other roots", m, n)
			}
			for _, other := range distorted(path) {
				if merkle.Extends(old, m, root, n, other) {
					t.Fatalf("from %d to %d: Extends accepts %x instead of %x", m, n, other, path)
				}
			}
		}
	}
}

// P7.5: the growth between any two lists under any two numbers, and the first and last elements of it, compared with another verifier.
func TestExtendsOfOtherNumbers(t *testing.T) {
	l := leaves(18)
	accepted, rejected := 0, 0
	for n := range len(l) {
		for m := range n + 1 {
			old, root, path := rootOf(l[:m]), rootOf(l[:n]), growthOf(l[:n], m)
			for cut := range len(path) + 1 {
				for _, part := range [][]api.Hash{path[:cut], path[cut:]} {
					for from := -1; from < 20; from++ {
						for to := -1; to < 20; to++ {
							want := extended(old, from, root, to, part)
							if got := merkle.Extends(old, from, root, to, part); got != want {
								t.Fatalf("%d elements of the growth from %d to %d, as from %d to %d: %v", len(part), m, n, from, to, got)
							}
							if want {
								accepted++
							} else {
								rejected++
							}
						}
					}
				}
			}
		}
	}
	if accepted < 1000 || rejected < 1000 {
		t.Errorf("%d accepted, %d rejected", accepted, rejected)
	}
}

// pairOf returns the two values that result from a path of any elements, by the definition of P7.5; false if the number of elements is wrong.
func pairOf(old api.Hash, m, n int, whole bool, path []api.Hash) (a, b api.Hash, ok bool) {
	if m == n && whole {
		return old, old, len(path) == 0
	}
	if len(path) == 0 {
		return a, b, false
	}
	s, rest := path[len(path)-1], path[:len(path)-1]
	if m == n {
		return s, s, len(path) == 1
	}
	k := 1
	for 2*k < n {
		k *= 2
	}
	if m <= k {
		a, b, ok = pairOf(old, m, k, whole, rest)
		return a, node(b, s), ok
	}
	a, b, ok = pairOf(old, m-k, n-k, false, rest)
	return node(s, a), node(s, b), ok
}

// P7.5: any elements are a growth between the roots that result from them, if these are the roots that are given.
func TestExtendsAnyElements(t *testing.T) {
	elements := leaves(12)
	for n := 1; n < 70; n++ {
		for m := 1; m <= n; m++ {
			fits := 0
			for length := range len(elements) - 1 {
				path := elements[1 : 1+length]
				// The value for the older tree is old or comes from the elements alone.
				a, b, ok := pairOf(elements[0], m, n, true, path)
				if ok {
					fits++
				}
				if got := merkle.Extends(a, m, b, n, path); got != ok {
					t.Fatalf("%d elements as the growth from %d to %d: %v", length, m, n, got)
				}
				if a != elements[0] && merkle.Extends(elements[0], m, b, n, path) {
					t.Fatalf("%d elements as the growth from %d to %d: another old root is accepted", length, m, n)
				}
			}
			if fits != 1 {
				t.Fatalf("from %d to %d: paths of %d lengths", m, n, fits)
			}
		}
	}
}

// blocks returns the roots of the blocks of a list with at most 65536 leaves, by the definition of a frontier.
func blocks(l []api.Hash) []api.Hash {
	var roots []api.Hash
	for size := 1 << 16; size > 0; size /= 2 {
		if len(l)&size != 0 {
			from := len(l) &^ (2*size - 1)
			roots = append(roots, rootOf(l[from:from+size]))
		}
	}
	return roots
}

// P7.6, P7.8: the frontier after each leaf.
func TestFrontiers(t *testing.T) {
	l := leaves(600)
	var f api.Frontier
	if got := merkle.Top(f); got != empty() {
		t.Errorf("Top of no leaves: %x", got)
	}
	for i, leaf := range l {
		f = merkle.Append(f, leaf)
		n := i + 1
		if f.N != n || len(f.H) != bits.OnesCount(uint(n)) || !slices.Equal(f.H, blocks(l[:n])) {
			t.Fatalf("the frontier of %d leaves: %v", n, f)
		}
		if got := merkle.Top(f); got != rootOf(l[:n]) || got != merkle.Root(l[:n]) {
			t.Fatalf("Top of %d leaves: %x", n, got)
		}
	}
}

// P7.6: the example of the chapter.
func TestFrontierExample(t *testing.T) {
	l := leaves(3)
	var f api.Frontier
	for _, leaf := range l {
		f = merkle.Append(f, leaf)
	}
	if f.N != 3 || !slices.Equal(f.H, []api.Hash{node(l[0], l[1]), l[2]}) {
		t.Errorf("the frontier of 3 leaves: %v", f)
	}
	if got := merkle.Top(f); got != node(node(l[0], l[1]), l[2]) {
		t.Errorf("Top: %x", got)
	}
}

// P7.6, P7.8: up to the greatest number of leaves.
func TestFrontiersOfManyLeaves(t *testing.T) {
	l := leaves(65536)
	check := map[int]bool{}
	for _, n := range append(lengths(0, 65536), 40000, 65534) {
		check[n] = true
	}
	var f api.Frontier
	for i, leaf := range l {
		f = merkle.Append(f, leaf)
		if n := i + 1; check[n] && (f.N != n || !slices.Equal(f.H, blocks(l[:n])) || merkle.Top(f) != rootOf(l[:n])) {
			t.Errorf("the frontier of %d leaves: %v", n, f)
		}
	}
	if f.N != 65536 || len(f.H) != 1 {
		t.Errorf("the frontier of 65536 leaves: %v", f)
	}
}

// P7.6, R4: frontiers stay as they are, and share no memory with others, also if they have spare capacity.
func TestFrontiersShareNothing(t *testing.T) {
	l := leaves(40)
	var f api.Frontier
	for n := range 33 {
		room := append(make([]api.Hash, 0, 20), f.H...)
		spare := slices.Clone(room[:20])
		roomy := api.Frontier{N: f.N, H: room}
		x, y := merkle.Append(roomy, l[38]), merkle.Append(roomy, l[39])
		if merkle.Top(roomy); !slices.Equal(room[:20], spare) || roomy.N != n {
			t.Fatalf("Append or Top changes the frontier of %d leaves", n)
		}
		if merkle.Top(x) != rootOf(append(slices.Clone(l[:n]), l[38])) || merkle.Top(y) != rootOf(append(slices.Clone(l[:n]), l[39])) {
			t.Fatalf("two frontiers that come from one of %d leaves", n)
		}
		clear(x.H[:cap(x.H)])
		if !slices.Equal(room[:20], spare) || merkle.Top(y) != rootOf(append(slices.Clone(l[:n]), l[39])) {
			t.Fatalf("Append shares the memory of the frontier of %d leaves", n)
		}
		f = merkle.Append(f, l[n])
	}
}

// P7.1 to P7.5, R4: arguments stay as they are, and results share no memory with them.
func TestListsAreNeitherChangedNorShared(t *testing.T) {
	room := leaves(40)
	want := slices.Clone(room)
	for n := range 38 {
		l := room[:n]
		root := merkle.Root(l)
		for i := range n {
			path, _ := merkle.Path(l, i)
			growth, _ := merkle.Growth(l, i)
			merkle.Includes(root, n, i, l[i], room[:len(path)])
			merkle.Extends(root, i, root, n, room[:len(growth)])
			again, _ := merkle.Path(l, i)
			clear(path[:cap(path)])
			clear(growth[:cap(growth)])
			if !slices.Equal(again, pathOf(want[:n], i)) {
				t.Fatalf("two paths of leaf %d of %d share memory", i, n)
			}
		}
		if !slices.Equal(room, want) {
			t.Fatalf("%d leaves were changed", n)
		}
	}
}

// R1: frontiers that Append did not return give no meaningful value, but no panic.
func TestOtherFrontiers(t *testing.T) {
	for _, n := range []int{0, 1, 2, 3, 7, 65535, 65536, -1, math.MinInt, math.MaxInt} {
		for size := range 70 {
			f := api.Frontier{N: n, H: leaves(size)}
			merkle.Top(f)
			merkle.Append(f, api.Hash{})
		}
	}
}
