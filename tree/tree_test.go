package tree_test

import (
	"maps"
	"slices"
	"strings"
	"testing"

	"rollbook/api"
	"rollbook/tree"
)

// model is a naive map with the same calls as a tree.
type model map[string]string

// pairs returns the pairs whose keys are at least from and less than until, if until is not empty.
func (m model) pairs(from, until string) []api.Pair {
	var l []api.Pair
	for _, k := range slices.Sorted(maps.Keys(m)) {
		if k >= from && (until == "" || k < until) {
			l = append(l, api.Pair{Key: k, Value: m[k]})
		}
	}
	return l
}

// diff returns the edits that turn m into n.
func (m model) diff(n model) []api.Edit {
	var l []api.Edit
	both := maps.Clone(m)
	maps.Copy(both, n)
	for _, k := range slices.Sorted(maps.Keys(both)) {
		old, had := m[k]
		now, has := n[k]
		if !has {
			l = append(l, api.Edit{Key: k, Delete: true})
		} else if !had || old != now {
			l = append(l, api.Edit{Key: k, Value: now})
		}
	}
	return l
}

// without returns m without a key.
func (m model) without(key string) model {
	n := maps.Clone(m)
	delete(n, key)
	return n
}

// with returns m with another pair.
func (m model) with(key, value string) model {
	n := maps.Clone(m)
	n[key] = value
	return n
}

// build returns the tree and the model to which some keys were added in this order; their values are the keys, behind a "v".
func build(keys []string) (*tree.Tree, model) {
	t, m := tree.New(), model{}
	for _, k := range keys {
		t = t.Put(k, "v"+k)
		m[k] = "v" + k
	}
	return t, m
}

// numbered returns n keys in their order. Between any two of them there is room for others.
func numbered(n int) []string {
	var l []string
	for i := range n {
		l = append(l, "k"+string([]byte{byte('0' + i/1000%10), byte('0' + i/100%10), byte('0' + i/10%10), byte('0' + i%10)}))
	}
	return l
}

// orders returns keys in several orders.
func orders(keys []string) map[string][]string {
	down := slices.Clone(keys)
	slices.Reverse(down)
	var outward, mixed []string
	for i := range keys {
		half := len(keys) / 2
		if i%2 == 0 {
			outward = append(outward, keys[half+i/2])
		} else {
			outward = append(outward, keys[half-1-i/2])
		}
		// 389 is a prime that divides none of the lengths that are used here.
		mixed = append(mixed, keys[i*389%len(keys)])
	}
	inward := slices.Clone(outward)
	slices.Reverse(inward)
	return map[string][]string{"up": keys, "down": down, "outward": outward, "inward": inward, "mixed": mixed}
}

// nodes returns the number of nodes of a tree.
func nodes(t *tree.Tree) int { return tree.Fresh(tree.New(), t) }

// power returns b to the power of e.
func power(b, e int) int {
	p := 1
	for range e {
		p *= b
	}
	return p
}

// near returns a key, and keys before it and behind it.
func near(key string) []string {
	l := []string{key, key + "\x00", key + "a"}
	if key != "" {
		shorter, last := key[:len(key)-1], key[len(key)-1]
		l = append(l, shorter, shorter+string([]byte{last - 1, 0xff}), shorter+string([]byte{last + 1}))
	}
	return l
}

// checkShape checks that the height and the number of nodes fit the number of pairs.
func checkShape(t *testing.T, got *tree.Tree, pairs int) {
	t.Helper()
	if n := got.Len(); n != pairs {
		t.Fatalf("Len: %d, want %d", n, pairs)
	}
	h, n := got.Height(), nodes(got)
	if pairs == 0 {
		if h != 0 || n != 0 {
			t.Fatalf("the empty tree has the height %d and %d nodes", h, n)
		}
		return
	}
	if h < 1 || pairs < 2*power(4, h-1)-1 || pairs > power(9, h)-1 {
		t.Fatalf("the height of %d pairs is %d", pairs, h)
	}
	if pairs < 3*(n-1)+1 || pairs > 8*n {
		t.Fatalf("%d pairs are in %d nodes", pairs, n)
	}
	if least := 1 + 2*(power(4, h-1)-1)/3; n < least || n > (power(9, h)-1)/8 {
		t.Fatalf("%d nodes have the height %d", n, h)
	}
}

// checkKey checks what a tree returns for one key.
func checkKey(t *testing.T, got *tree.Tree, sorted []api.Pair, key string) {
	t.Helper()
	i, found := slices.BinarySearchFunc(sorted, key, func(p api.Pair, key string) int { return strings.Compare(p.Key, key) })
	want := ""
	floor, ok := api.Pair{}, found || i > 0
	if found {
		want, floor = sorted[i].Value, sorted[i]
	} else if ok {
		floor = sorted[i-1]
	}
	if v, has := got.Get(key); v != want || has != found {
		t.Fatalf("Get(%q): %q, %v, want %q, %v", key, v, has, want, found)
	}
	if p, has := got.Floor(key); p != floor || has != ok {
		t.Fatalf("Floor(%q): %q, %v, want %q, %v", key, p, has, floor, ok)
	}
	if l := got.Range(key, ""); !slices.Equal(l, sorted[i:]) {
		t.Fatalf("Range from %q: %q, want %q", key, l, sorted[i:])
	}
	if key != "" {
		if l := got.Range("", key); !slices.Equal(l, sorted[:i]) {
			t.Fatalf("Range until %q: %q, want %q", key, l, sorted[:i])
		}
	}
}

// check checks that a tree has the pairs of a model, with each call for each key.
func check(t *testing.T, got *tree.Tree, m model) {
	t.Helper()
	checkShape(t, got, len(m))
	sorted := m.pairs("", "")
	if l := got.Range("", ""); !slices.Equal(l, sorted) {
		t.Fatalf("Range: %q, want %q", l, sorted)
	}
	for _, key := range []string{"", "\x00", "\xff", strings.Repeat("\xff", 61)} {
		checkKey(t, got, sorted, key)
	}
	for key := range m {
		checkKey(t, got, sorted, key)
	}
}

// checkNear checks that a tree has the pairs of a model, also with keys beside those that it has.
func checkNear(t *testing.T, got *tree.Tree, m model) {
	t.Helper()
	check(t, got, m)
	sorted := m.pairs("", "")
	for key := range m {
		for _, k := range near(key) {
			checkKey(t, got, sorted, k)
		}
	}
}

// checkStep checks how many nodes a tree u that came from a tree by one change does not share with it; changed: the pairs are not the same.
func checkStep(t *testing.T, before, u *tree.Tree, changed bool) {
	t.Helper()
	n := tree.Fresh(before, u)
	if n < 0 || n > 3*before.Height()+2 {
		t.Fatalf("a change of a tree of the height %d makes %d nodes", before.Height(), n)
	}
	// No node but the root has all the pairs but one below it, so the new root is a new node.
	if changed && u.Len() > 0 && n == 0 {
		t.Fatal("a change makes no node")
	}
}

func TestNew(t *testing.T) {
	e := tree.New()
	if e == nil {
		t.Fatal("New: nil")
	}
	check(t, e, model{})
	for _, key := range []string{"", "a", "\x00", strings.Repeat("x", 60), strings.Repeat("x", 61)} {
		if v, ok := e.Get(key); v != "" || ok {
			t.Errorf("Get(%q): %q, %v", key, v, ok)
		}
		if p, ok := e.Floor(key); p != (api.Pair{}) || ok {
			t.Errorf("Floor(%q): %q, %v", key, p, ok)
		}
		if l := e.Range(key, ""); len(l) != 0 {
			t.Errorf("Range from %q: %q", key, l)
		}
		check(t, e.Delete(key), model{})
	}
	if n := tree.Fresh(e, e); n != 0 {
		t.Errorf("Fresh: %d", n)
	}
	if n := tree.Fresh(e, tree.New()); n != 0 {
		t.Errorf("Fresh: %d", n)
	}
	if l := tree.Diff(e, tree.New()); len(l) != 0 {
		t.Errorf("Diff: %v", l)
	}
}

func TestNewTreesAreIndependent(t *testing.T) {
	a := tree.New()
	b := a.Put("a", "1")
	check(t, a, model{})
	check(t, tree.New(), model{})
	check(t, b, model{"a": "1"})
	check(t, b.Delete("a"), model{})
	check(t, b, model{"a": "1"})
}

func TestEmptyKeysAndValues(t *testing.T) {
	u := tree.New().Put("", "")
	checkNear(t, u, model{"": ""})
	if v, ok := u.Get(""); v != "" || !ok {
		t.Errorf("Get: %q, %v", v, ok)
	}
	if p, ok := u.Floor("a"); p != (api.Pair{}) || !ok {
		t.Errorf("Floor: %q, %v", p, ok)
	}
	u = u.Put("a", "").Put("", "x").Put("b", "y")
	checkNear(t, u, model{"": "x", "a": "", "b": "y"})
	checkNear(t, u.Put("b", ""), model{"": "x", "a": "", "b": ""})
	checkNear(t, u.Delete(""), model{"a": "", "b": "y"})
	check(t, tree.New().Put("", "").Delete(""), model{})
}

func TestPutReplaces(t *testing.T) {
	for _, size := range []int{1, 5, 40, 200} {
		u, m := build(numbered(size))
		for _, key := range numbered(size) {
			for _, value := range []string{"", "w", "v" + key} {
				w := u.Put(key, value)
				checkStep(t, u, w, value != "v"+key)
				if v, ok := w.Get(key); v != value || !ok {
					t.Fatalf("Get after Put(%q, %q): %q, %v", key, value, v, ok)
				}
				if l, want := w.Range("", ""), m.with(key, value).pairs("", ""); !slices.Equal(l, want) {
					t.Fatalf("Range after Put(%q, %q): %q, want %q", key, value, l, want)
				}
				checkShape(t, w, size)
			}
		}
		check(t, u, m)
	}
}

func TestPermittedKeys(t *testing.T) {
	for _, size := range []int{0, 1, 8, 100} {
		u, m := build(numbered(size))
		for _, key := range []string{
			strings.Repeat("x", 60), strings.Repeat("\x00", 60), strings.Repeat("\xff", 60),
			strings.Repeat("é", 30), strings.Repeat("\u20ac", 20), strings.Repeat("\U00010000", 15),
		} {
			checkNear(t, u.Put(key, "y"), m.with(key, "y"))
			check(t, u.Put(key, "y").Delete(key), m)
		}
		for _, key := range []string{
			strings.Repeat("x", 61), strings.Repeat("\x00", 61), strings.Repeat("\xff", 61), strings.Repeat("x", 100000),
			strings.Repeat("é", 31), strings.Repeat("é", 60), strings.Repeat("\u20ac", 21), strings.Repeat("\U00010000", 16),
		} {
			check(t, u.Put(key, "y"), m)
			check(t, u.Put(key, ""), m)
			check(t, u.Put(key, strings.Repeat("y", 1001)), m)
			check(t, u.Delete(key), m)
			checkStep(t, u, u.Put(key, "y"), false)
			checkStep(t, u, u.Delete(key), false)
		}
		check(t, u, m)
	}
}

func TestPermittedValues(t *testing.T) {
	for _, size := range []int{0, 1, 8, 100} {
		u, m := build(numbered(size))
		for _, key := range []string{"", "k0000", "k0000+", "k0007", "x"} {
			for _, value := range []string{strings.Repeat("x", 1000), strings.Repeat("\u20ac", 333) + "x", strings.Repeat("\x00", 1000)} {
				check(t, u.Put(key, value), m.with(key, value))
			}
			for _, value := range []string{strings.Repeat("x", 1001), strings.Repeat("\u20ac", 334), strings.Repeat("\U00010000", 251), strings.Repeat("x", 100000)} {
				check(t, u.Put(key, value), m)
				checkStep(t, u, u.Put(key, value), false)
			}
		}
		check(t, u, m)
	}
}

// A key that is too long is not the same as its first 60 bytes.
func TestLongKeysAreNotCut(t *testing.T) {
	long := strings.Repeat("x", 60)
	u := tree.New().Put("a", "1").Put(long, "2").Put("y", "3")
	m := model{"a": "1", long: "2", "y": "3"}
	check(t, u.Put(long+"x", "4"), m)
	check(t, u.Delete(long+"x"), m)
	if v, ok := u.Get(long + "x"); v != "" || ok {
		t.Errorf("Get: %q, %v", v, ok)
	}
	if p, ok := u.Floor(long + "x"); p != (api.Pair{Key: long, Value: "2"}) || !ok {
		t.Errorf("Floor: %q, %v", p, ok)
	}
	if l := u.Range(long+"x", ""); !slices.Equal(l, []api.Pair{{Key: "y", Value: "3"}}) {
		t.Errorf("Range: %q", l)
	}
	if l := u.Range("b", long+"x"); !slices.Equal(l, []api.Pair{{Key: long, Value: "2"}}) {
		t.Errorf("Range: %q", l)
	}
}

// inBytes are keys in the order of their bytes, which is neither that of numbers, of lengths, of letters, nor of UTF-16.
var inBytes = []string{
	"", "\x00", "\x00\x00", "\x00\xff", "\x01", " ", "10", "2", "9", "A", "AB", "B", "Z", "_", "a", "a\x00", "aa", "aaa", "ab", "b", "z",
	"\x7f", "\x80", "\xc3", "é", "éa", "é\xff", "\u20ac", "\ud7ff", "\ufffd", "\uffff", "\U00010000", "\U0010ffff", "\xfe", "\xff", "\xff\x00", "\xff\xff",
}

func TestKeysAreOrderedByBytes(t *testing.T) {
	if !slices.IsSorted(inBytes) {
		t.Fatal("the keys are not in order")
	}
	for name, keys := range orders(inBytes) {
		u, m := build(keys)
		checkNear(t, u, m)
		var got []string
		for _, p := range u.Range("", "") {
			got = append(got, p.Key)
		}
		if !slices.Equal(got, inBytes) {
			t.Errorf("%s: Range: %q", name, got)
		}
	}
}

func TestRange(t *testing.T) {
	for _, size := range []int{0, 1, 2, 8, 9, 31, 70} {
		for _, keys := range orders(numbered(size)) {
			u, m := build(keys)
			for i := -1; i <= 2*size+1; i++ {
				for j := -1; j <= 2*size+1; j++ {
					from, until := border(i), border(j)
					if l, want := u.Range(from, until), m.pairs(from, until); !slices.Equal(l, want) {
						t.Fatalf("%d pairs: Range(%q, %q): %q, want %q", size, from, until, l, want)
					}
				}
			}
			if size > 31 {
				break
			}
		}
	}
}

// border returns the empty string for -1, the numbered keys for even numbers, and for odd ones a string between two of them.
func border(i int) string {
	if i < 0 {
		return ""
	}
	key := numbered(i/2 + 1)[i/2]
	if i%2 == 1 {
		key += "+"
	}
	return key
}

func TestResultsShareNothing(t *testing.T) {
	for _, size := range []int{1, 5, 8, 60} {
		u, m := build(numbered(size))
		w := u.Put("x", "y").Delete("k0000")
		spoil := func(l []api.Pair) {
			l = l[:cap(l)]
			for i := range l {
				l[i] = api.Pair{Key: "spoilt", Value: "spoilt"}
			}
		}
		spoil(u.Range("", ""))
		spoil(u.Range("k0002", "k0004"))
		spoil(u.Range("k0000", "k0001"))
		spoil(w.Range("", ""))
		first := u.Range("", "")
		spoil(u.Range("", ""))
		if !slices.Equal(first, m.pairs("", "")) {
			t.Errorf("two results of Range share memory: %q", first)
		}
		l := tree.Diff(u, w)
		for i := range l[:cap(l)] {
			l[:cap(l)][i] = api.Edit{Key: "spoilt", Value: "spoilt", Delete: true}
		}
		if l, want := tree.Diff(u, w), m.diff(m.with("x", "y").without("k0000")); !slices.Equal(l, want) {
			t.Errorf("Diff: %v, want %v", l, want)
		}
		check(t, u, m)
		check(t, w, m.with("x", "y").without("k0000"))
	}
}

// TestGrowAndShrink adds keys and deletes them again, in each pair of orders, and checks each step.
func TestGrowAndShrink(t *testing.T) {
	for _, size := range []int{8, 9, 26, 60, 180} {
		for up, added := range orders(numbered(size)) {
			for down, deleted := range orders(numbered(size)) {
				t.Run(up+"/"+down, func(t *testing.T) { growAndShrink(t, added, deleted) })
			}
		}
	}
}

func growAndShrink(t *testing.T, added, deleted []string) {
	u, m := tree.New(), model{}
	step := func(key string, w *tree.Tree) {
		checkStep(t, u, w, true)
		u = w
		checkShape(t, u, len(m))
		sorted := m.pairs("", "")
		for _, k := range near(key) {
			checkKey(t, u, sorted, k)
		}
		if l := u.Range("", ""); !slices.Equal(l, sorted) {
			t.Fatalf("Range: %q, want %q", l, sorted)
		}
	}
	for _, key := range added {
		m[key] = "v" + key
		step(key, u.Put(key, "v"+key))
	}
	check(t, u, m)
	for _, key := range deleted {
		delete(m, key)
		step(key, u.Delete(key))
	}
	check(t, u, model{})
}

// TestEachDelete deletes each key of a tree, and keys that it does not have.
func TestEachDelete(t *testing.T) {
	for size := 1; size <= 120; size += 1 + size/8 {
		for name, keys := range orders(numbered(size)) {
			u, m := build(keys)
			for _, key := range keys {
				w := u.Delete(key)
				checkStep(t, u, w, true)
				checkShape(t, w, size-1)
				if l, want := w.Range("", ""), m.without(key).pairs("", ""); !slices.Equal(l, want) {
					t.Fatalf("%s: Range after Delete(%q): %q, want %q", name, key, l, want)
				}
				if _, ok := w.Get(key); ok {
					t.Fatalf("%s: Get(%q) after Delete", name, key)
				}
				for _, absent := range []string{key + "\x00", key[:4], key + "+"} {
					w := u.Delete(absent)
					checkStep(t, u, w, false)
					if l, want := w.Range("", ""), m.pairs("", ""); !slices.Equal(l, want) {
						t.Fatalf("%s: Range after Delete(%q): %q, want %q", name, absent, l, want)
					}
				}
			}
			checkNear(t, u, m)
		}
	}
}

func TestExamples(t *testing.T) {
	a := tree.New().Put("b", "1").Put("d", "2")
	check(t, a, model{"b": "1", "d": "2"})
	if l := a.Range("b", "d"); !slices.Equal(l, []api.Pair{{Key: "b", Value: "1"}}) {
		t.Errorf("Range: %q", l)
	}
	if p, ok := a.Floor("c"); p != (api.Pair{Key: "b", Value: "1"}) || !ok {
		t.Errorf("Floor(c): %q, %v", p, ok)
	}
	if p, ok := a.Floor("a"); p != (api.Pair{}) || ok {
		t.Errorf("Floor(a): %q, %v", p, ok)
	}
	b := tree.New().Put("d", "3").Put("e", "4")
	want := []api.Edit{{Key: "b", Delete: true}, {Key: "d", Value: "3"}, {Key: "e", Value: "4"}}
	if l := tree.Diff(a, b); !slices.Equal(l, want) {
		t.Errorf("Diff: %v", l)
	}
}

func TestHeightExamples(t *testing.T) {
	for size := range 31 {
		for name, keys := range orders(numbered(size)) {
			u, _ := build(keys)
			if h := u.Height(); size >= 1 && size <= 6 && h != 1 || size >= 9 && h != 2 || size == 0 && h != 0 {
				t.Errorf("%s: the height of %d pairs is %d", name, size, h)
			}
		}
	}
}

func TestDiff(t *testing.T) {
	a := model{"a": "1", "b": "2", "c": "3", "d": "", "": "x"}
	for _, b := range []model{
		{}, a, {"": "x"}, {"0": "0"}, {"e": "5"},
		{"a": "1", "b": "", "c": "3", "d": "", "": "x"},
		{"a": "1", "b": "2", "c": "4", "d": "5", "": ""},
		{"a\x00": "1", "b\x00": "2", "c\x00": "3", "d\x00": ""},
		{"b": "2", "d": ""}, {"b": "a", "d": "c"}, {"a": "2", "b": "1"},
		{"a": "1", "b": "2", "c": "3", "d": "", "": "x", "e": "6", "f": ""},
	} {
		u, w := fill(a), fill(b)
		if l, want := tree.Diff(u, w), a.diff(b); !slices.Equal(l, want) {
			t.Errorf("Diff(%v, %v): %v, want %v", a, b, l, want)
		}
		if l, want := tree.Diff(w, u), b.diff(a); !slices.Equal(l, want) {
			t.Errorf("Diff(%v, %v): %v, want %v", b, a, l, want)
		}
		if l := tree.Diff(w, w); len(l) != 0 {
			t.Errorf("Diff(%v, the same): %v", b, l)
		}
		check(t, perform(u, tree.Diff(u, w)), b)
		check(t, perform(w, tree.Diff(w, u)), a)
	}
}

// fill returns a tree with the pairs of a model.
func fill(m model) *tree.Tree {
	t := tree.New()
	for _, p := range m.pairs("", "") {
		t = t.Put(p.Key, p.Value)
	}
	return t
}

// perform performs edits on a tree.
func perform(t *tree.Tree, edits []api.Edit) *tree.Tree {
	for _, e := range edits {
		if e.Delete {
			t = t.Delete(e.Key)
		} else {
			t = t.Put(e.Key, e.Value)
		}
	}
	return t
}
