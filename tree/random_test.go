package tree_test

import (
	"maps"
	"math/rand"
	"slices"
	"strconv"
	"strings"
	"testing"

	"rollbook/api"
	"rollbook/tree"
)

// version is a tree, and what it had when it came about.
type version struct {
	tree   *tree.Tree
	model  model
	height int
	nodes  int
}

// record returns a version; m is not kept.
func record(t *tree.Tree, m model) version {
	return version{tree: t, model: maps.Clone(m), height: t.Height(), nodes: nodes(t)}
}

// checkVersion checks that a tree is what it was.
func checkVersion(t *testing.T, v version) {
	t.Helper()
	check(t, v.tree, v.model)
	if h := v.tree.Height(); h != v.height {
		t.Fatalf("the height was %d and is %d", v.height, h)
	}
	if n := nodes(v.tree); n != v.nodes {
		t.Fatalf("the tree had %d nodes and has %d", v.nodes, n)
	}
	if n := tree.Fresh(v.tree, v.tree); n != 0 {
		t.Fatalf("the tree does not have %d of its own nodes", n)
	}
}

// change makes a random change of a tree and its model, and checks what P5.4 promises of it. The fewer keys, the more of them are there already.
func change(t *testing.T, r *rand.Rand, before *tree.Tree, m model, keys, puts int) *tree.Tree {
	t.Helper()
	key := "k" + strconv.Itoa(r.Intn(keys))
	old, had := m[key]
	if r.Intn(100) < puts {
		value := strconv.Itoa(r.Intn(3))
		m[key] = value
		u := before.Put(key, value)
		checkStep(t, before, u, !had || value != old)
		return u
	}
	delete(m, key)
	u := before.Delete(key)
	checkStep(t, before, u, had)
	return u
}

// TestAgainstModel lets trees grow and shrink at random, and compares them with models.
func TestAgainstModel(t *testing.T) {
	for _, keys := range []int{3, 12, 40, 150, 1000, 2500} {
		t.Run(strconv.Itoa(keys), func(t *testing.T) {
			r := rand.New(rand.NewSource(int64(keys)))
			u, m := tree.New(), model{}
			for _, puts := range []int{90, 30, 60, 50, 10, 80, 0} {
				for i := range 2 * keys {
					u = change(t, r, u, m, keys, puts)
					if i%(1+keys/20) == 0 {
						checkShape(t, u, len(m))
						checkKey(t, u, m.pairs("", ""), "k"+strconv.Itoa(r.Intn(keys)))
					}
				}
				checkSome(t, r, u, m, keys)
			}
		})
	}
}

// checkSome checks that a tree has the pairs of a model, with some keys.
func checkSome(t *testing.T, r *rand.Rand, u *tree.Tree, m model, keys int) {
	t.Helper()
	if len(m) <= 300 {
		checkNear(t, u, m)
		return
	}
	checkShape(t, u, len(m))
	sorted := m.pairs("", "")
	for range 100 {
		for _, key := range near("k" + strconv.Itoa(r.Intn(keys))) {
			checkKey(t, u, sorted, key)
		}
		p := sorted[r.Intn(len(sorted))]
		checkKey(t, u, sorted, p.Key)
	}
}

// versions returns trees that came from each other by random changes: each one from one of those before, the first one from the empty tree.
func versions(t *testing.T, seed int64, n, keys int) []version {
	t.Helper()
	r := rand.New(rand.NewSource(seed))
	first, m := tree.New(), model{}
	all := []version{record(first, m)}
	for range keys {
		first = change(t, r, first, m, keys, 80)
	}
	all = append(all, record(first, m))
	for len(all) < n {
		v := all[len(all)-1]
		if r.Intn(10) == 0 {
			v = all[r.Intn(len(all))]
		}
		u, m := v.tree, maps.Clone(v.model)
		puts := r.Intn(101)
		for range r.Intn(8) {
			u = change(t, r, u, m, keys, puts)
		}
		all = append(all, record(u, m))
	}
	return all
}

// TestPersistence checks that all versions stay what they were while others are made from them and changed.
func TestPersistence(t *testing.T) {
	for _, keys := range []int{5, 30, 100, 400} {
		for seed := range int64(2) {
			for _, v := range versions(t, seed, 200, keys) {
				checkVersion(t, v)
			}
		}
	}
}

// TestPersistenceOfAllChanges changes one tree by each key, and checks that it stays what it was after each change.
func TestPersistenceOfAllChanges(t *testing.T) {
	for size := 1; size <= 80; size += 1 + size/20 {
		for _, keys := range orders(numbered(size)) {
			u, m := build(keys)
			before := u.Range("", "")
			h, n := u.Height(), nodes(u)
			for _, key := range keys {
				for _, w := range []*tree.Tree{u.Delete(key), u.Put(key, "w"), u.Put(key+"+", "w")} {
					for range 6 {
						w = w.Put("k", "x").Put("l", "x")
						w = w.Delete(w.Range("", "")[w.Len()/2].Key)
					}
					if l := u.Range("", ""); !slices.Equal(l, before) || u.Height() != h || nodes(u) != n {
						t.Fatalf("a change of %q changes the tree: %q, height %d, %d nodes", key, l, u.Height(), nodes(u))
					}
				}
			}
			check(t, u, m)
		}
	}
}

// TestPersistenceOfBranches makes all changes of one key from the same tree, and checks all trees that result when all of them are there.
func TestPersistenceOfBranches(t *testing.T) {
	for _, keys := range []int{20, 60, 150} {
		r := rand.New(rand.NewSource(int64(keys)))
		u, m := tree.New(), model{}
		for i := range 40 {
			for range keys / 4 {
				u = change(t, r, u, m, keys, 80-i/10*15)
			}
			branches := []version{record(u, m)}
			for _, p := range m.pairs("", "") {
				branches = append(branches,
					record(u.Delete(p.Key), m.without(p.Key)),
					record(u.Put(p.Key, "w"), m.with(p.Key, "w")),
					record(u.Put(p.Key+"+", "w"), m.with(p.Key+"+", "w")))
			}
			for _, b := range branches {
				if l := b.tree.Range("", ""); !slices.Equal(l, b.model.pairs("", "")) {
					t.Fatalf("a tree has changed: %q, it had %v", l, b.model)
				}
				if h, n := b.tree.Height(), nodes(b.tree); h != b.height || n != b.nodes {
					t.Fatalf("a tree of the height %d with %d nodes has the height %d and %d nodes now", b.height, b.nodes, h, n)
				}
			}
		}
	}
}

// TestPersistenceOfNeighbours adds some keys in a row to trees that have lost many keys, and deletes the next keys.
func TestPersistenceOfNeighbours(t *testing.T) {
	const keys = 300
	for seed := range int64(4) {
		r := rand.New(rand.NewSource(seed))
		u, m := build(numbered(keys))
		for _, i := range r.Perm(keys)[:keys*2/3] {
			key := numbered(keys)[i]
			u = u.Delete(key)
			delete(m, key)
		}
		sorted := m.pairs("", "")
		for i := range sorted {
			v, l := u, sorted
			for at := i + 1; at < i+7; at++ {
				p := api.Pair{Key: l[at-1].Key + "+", Value: "w"}
				v, l = v.Put(p.Key, p.Value), slices.Insert(slices.Clone(l), at, p)
				deleteNext(t, v, l, at+1)
			}
		}
	}
}

// deleteNext deletes each of the keys behind the place i from a tree, and checks all trees that result when all of them are there.
func deleteNext(t *testing.T, u *tree.Tree, sorted []api.Pair, i int) {
	t.Helper()
	var branches []*tree.Tree
	for _, p := range sorted[i:min(i+40, len(sorted))] {
		branches = append(branches, u.Delete(p.Key))
	}
	for j, w := range branches {
		if l, want := w.Range("", ""), slices.Delete(slices.Clone(sorted), i+j, i+j+1); !slices.Equal(l, want) {
			t.Fatalf("a tree has changed: %q, it had %q", l, want)
		}
	}
}

// TestFresh checks Fresh and Diff for all pairs of some versions.
func TestFresh(t *testing.T) {
	for _, keys := range []int{5, 60, 300} {
		all := versions(t, int64(keys), 80, keys)
		for _, a := range all {
			for _, b := range all {
				checkPair(t, a, b)
			}
		}
	}
}

// checkPair checks what two trees have in common.
func checkPair(t *testing.T, a, b version) {
	t.Helper()
	fresh, back := tree.Fresh(a.tree, b.tree), tree.Fresh(b.tree, a.tree)
	if fresh < 0 || fresh > b.nodes {
		t.Fatalf("%d of %d nodes are fresh", fresh, b.nodes)
	}
	if b.nodes-fresh != a.nodes-back {
		t.Fatalf("the trees have %d nodes in common, and %d", b.nodes-fresh, a.nodes-back)
	}
	edits := tree.Diff(a.tree, b.tree)
	if want := a.model.diff(b.model); !slices.Equal(edits, want) {
		t.Fatalf("Diff(%v, %v): %v, want %v", a.model, b.model, edits, want)
	}
	// What only b has is in nodes that only b has, at most 8 pairs in each one.
	added := 0
	for _, e := range edits {
		if !e.Delete {
			added++
		}
	}
	if added > 8*fresh {
		t.Fatalf("%d pairs are in %d fresh nodes", added, fresh)
	}
	if got := perform(a.tree, edits).Range("", ""); !slices.Equal(got, b.model.pairs("", "")) {
		t.Fatalf("the edits %v of %v yield %q", edits, a.model, got)
	}
}

// TestFreshOfThree checks that no node of a third tree is fresh that is fresh neither on the way to a second one nor from there.
func TestFreshOfThree(t *testing.T) {
	all := versions(t, 1, 30, 200)
	for _, a := range all {
		for _, b := range all {
			for _, c := range all {
				way := tree.Fresh(a.tree, b.tree) + tree.Fresh(b.tree, c.tree)
				if n := tree.Fresh(a.tree, c.tree); n > way {
					t.Fatalf("Fresh: %d, by way of another tree %d", n, way)
				}
			}
		}
	}
}

func TestFreshOfEmptyTrees(t *testing.T) {
	for _, size := range []int{1, 8, 9, 50, 400} {
		u, _ := build(numbered(size))
		if n := tree.Fresh(u, tree.New()); n != 0 {
			t.Errorf("Fresh of the empty tree: %d", n)
		}
		if n := tree.Fresh(tree.New(), u); 8*n < size || 3*(n-1)+1 > size {
			t.Errorf("Fresh of %d pairs: %d", size, n)
		}
		if n := tree.Fresh(u, u); n != 0 {
			t.Errorf("Fresh of the same tree: %d", n)
		}
	}
	if n := nodes(tree.New().Put("a", "1")); n != 1 {
		t.Errorf("a pair is in %d nodes", n)
	}
}

// TestSharing makes many changes of a tree and checks how many nodes they make in all.
func TestSharing(t *testing.T) {
	for _, keys := range []int{10, 100, 1000, 20000} {
		r := rand.New(rand.NewSource(int64(keys)))
		from, m := build(nil)
		for range keys / 2 {
			from = change(t, r, from, m, keys, 100)
			if keys > 1000 && from.Len() > 3000 {
				break
			}
		}
		for _, puts := range []int{0, 20, 50, 100} {
			u, n, h := from, maps.Clone(m), from.Height()
			for i := range 60 {
				u = change(t, r, u, n, keys, puts)
				h = max(h, u.Height())
				if fresh := tree.Fresh(from, u); fresh > (i+1)*(3*h+2) {
					t.Fatalf("%d changes make %d nodes, at the height %d", i+1, fresh, h)
				}
			}
		}
	}
}

// TestContents checks that trees with the same pairs return the same, however they came about.
func TestContents(t *testing.T) {
	for _, size := range []int{1, 7, 8, 20, 75, 200} {
		keys := numbered(size)
		_, m := build(keys)
		trees := detours(keys)
		for name, u := range trees {
			checkNear(t, u, m)
			for other, w := range trees {
				if l := tree.Diff(u, w); len(l) != 0 {
					t.Errorf("Diff from %s to %s: %v", name, other, l)
				}
			}
			x := u.Delete(keys[size/2]).Put("x", "y")
			for other, w := range trees {
				if l, want := tree.Diff(w, x), m.diff(m.with("x", "y").without(keys[size/2])); !slices.Equal(l, want) {
					t.Errorf("Diff from %s to %s: %v, want %v", other, name, l, want)
				}
			}
		}
	}
}

// detours returns trees with the same keys, which came about in different ways.
func detours(keys []string) map[string]*tree.Tree {
	trees := map[string]*tree.Tree{}
	for name, order := range orders(keys) {
		trees[name], _ = build(order)
		// There are twice as many keys on the way, and all values are others at first.
		u := tree.New()
		for _, key := range order {
			u = u.Put(key+"+", "").Put(key, "old")
		}
		for _, key := range order {
			u = u.Put(key, "v"+key).Delete(key + "+")
		}
		trees[name+" and others"] = u
		// All keys are deleted on the way, and come back.
		u = trees[name]
		for _, key := range order {
			u = u.Delete(key)
		}
		for _, key := range keys {
			u = u.Put(key, "v"+key)
		}
		trees[name+" twice"] = u
	}
	return trees
}

// TestMany builds large trees, and empties them.
func TestMany(t *testing.T) {
	const size = 20000
	var keys []string
	for i := range size {
		n := strconv.Itoa(i)
		keys = append(keys, strings.Repeat("0", 5-len(n))+n)
	}
	for name, order := range orders(keys) {
		u, m := build(order)
		checkShape(t, u, size)
		sorted := m.pairs("", "")
		if l := u.Range("", ""); !slices.Equal(l, sorted) {
			t.Fatalf("%s: Range: %d pairs", name, len(l))
		}
		if l := u.Range("09990", "10010"); !slices.Equal(l, sorted[9990:10010]) {
			t.Fatalf("%s: Range: %q", name, l)
		}
		for i := range 50 {
			key := keys[i*397]
			checkStep(t, u, u.Put(key, "x"), true)
			checkStep(t, u, u.Put(key+"+", "x"), true)
			checkStep(t, u, u.Delete(key), true)
		}
		w := u
		for i, key := range order {
			w = w.Delete(key)
			if i%1000 == 0 {
				checkShape(t, w, size-i-1)
			}
		}
		check(t, w, model{})
		checkShape(t, u, size)
	}
}
