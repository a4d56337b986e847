package tests

import (
	"math/rand"
	"slices"
	"testing"

	"loop.example/g01261/impl"
)

// checkEdits checks what becomes of a valid catalogue by PutBelow and MergeEntries, for all indices and some that are none.
func checkEdits(t *testing.T, list []impl.Entry) {
	t.Helper()
	n := int64(len(list))
	for i := int64(-1); i <= n; i++ {
		for k := int64(-3); k <= n+1; k++ {
			checkPut(t, list, i, k)
			checkMerge(t, list, i, k)
		}
	}
}

func checkPut(t *testing.T, list []impl.Entry, i, broader int64) {
	t.Helper()
	got, code := impl.PutBelow(list, i, broader)
	var want []impl.Entry
	wantCode := int64(impl.ErrRange)
	if i >= 0 && i < int64(len(list)) {
		want, wantCode = slices.Clone(list), impl.OK
		want[i].Broader = broader
		if !validIn(want) {
			want, wantCode = nil, impl.ErrState
		}
	}
	sameOf(t, got, want, "PutBelow", list, i, broader)
	sameOf(t, code, wantCode, "PutBelow", list, i, broader)
}

func checkMerge(t *testing.T, list []impl.Entry, i, k int64) {
	t.Helper()
	n := int64(len(list))
	got, code := impl.MergeEntries(list, i, k)
	var want []impl.Entry
	wantCode := int64(impl.OK)
	switch {
	case i < 0 || i >= n || k < 0 || k >= n:
		wantCode = impl.ErrRange
	case list[i].See != -1 || list[k].See != -1 || slices.Contains(pathIn(list, k), i):
		wantCode = impl.ErrState
	default:
		want = mergedIn(list, i, k)
		checkFoundFromBoth(t, list, got, i, k)
	}
	sameOf(t, got, want, "MergeEntries", list, i, k)
	sameOf(t, code, wantCode, "MergeEntries", list, i, k)
}

// checkFoundFromBoth checks that both names, and all synonyms of both, lead to one entry, with all that was below one of both.
func checkFoundFromBoth(t *testing.T, list, merged []impl.Entry, i, k int64) {
	t.Helper()
	if !validIn(merged) || len(merged) != len(list) {
		t.Errorf("MergeEntries %v, %d, %d: %v is not valid", list, i, k, merged)
		return
	}
	var means []int64
	for _, at := range []int64{i, k} {
		means = append(append(means, at), synonymsIn(list, at)...)
	}
	all, code := impl.ExpandEntry(merged, k)
	sameOf(t, code, int64(impl.OK), "ExpandEntry", merged, k)
	for _, at := range means {
		found, _ := impl.FindEntry(merged, list[at].Name)
		preferred, _ := impl.PreferredOf(merged, found)
		sameOf(t, []int64{found, preferred}, []int64{at, k}, "found", merged, list[at].Name)
		with, _ := impl.ExpandEntry(merged, found)
		sameOf(t, with, all, "ExpandEntry", merged, found)
	}
	before := append(expandIn(list, i), expandIn(list, k)...)
	slices.Sort(before)
	sameOf(t, all, slices.Compact(before), "ExpandEntry", merged, k)
	others, _ := impl.SynonymsOf(merged, k)
	sameOf(t, len(others), len(means)-1, "SynonymsOf", merged, k)
}

func TestPromise11MergedEntriesAreFoundFromBothNames(t *testing.T) {
	r := rand.New(rand.NewSource(160))
	for _, list := range goodCatalogues() {
		n := int64(len(list))
		if n <= 12 {
			checkEdits(t, list)
			continue
		}
		for range 40 {
			checkMerge(t, list, r.Int63n(n), r.Int63n(n))
			checkPut(t, list, r.Int63n(n), r.Int63n(n+2)-1)
		}
	}
	for range 300 {
		checkEdits(t, randomCatalogue(r, r.Intn(8)))
	}
}

// Entries are merged again and again, until no two are left that can be.
func TestPromise11ManyMerges(t *testing.T) {
	r := rand.New(rand.NewSource(161))
	for range 20 {
		list := randomCatalogue(r, 40)
		for range 200 {
			i, k := r.Int63n(40), r.Int63n(40)
			checkMerge(t, list, i, k)
			if merged, code := impl.MergeEntries(list, i, k); code == impl.OK {
				list = merged
			}
		}
		checkCatalogue(t, list)
	}
}

func TestPromise11MergesByHand(t *testing.T) {
	// dog is below animal, and wolf below dog; hound and pooch are dog; pet is a top.
	list := []impl.Entry{topEntry("animal"), belowEntry("dog", 0), seeEntry("hound", 1), belowEntry("wolf", 1), topEntry("pet"), seeEntry("pooch", 1)}
	for _, x := range []struct {
		i, k, code int64
		want       []impl.Entry
	}{
		{1, 4, impl.OK, []impl.Entry{topEntry("animal"), seeEntry("dog", 4), seeEntry("hound", 4), belowEntry("wolf", 4), topEntry("pet"), seeEntry("pooch", 4)}},
		{1, 0, impl.OK, []impl.Entry{topEntry("animal"), seeEntry("dog", 0), seeEntry("hound", 0), belowEntry("wolf", 0), topEntry("pet"), seeEntry("pooch", 0)}},
		{3, 0, impl.OK, []impl.Entry{topEntry("animal"), belowEntry("dog", 0), seeEntry("hound", 1), seeEntry("wolf", 0), topEntry("pet"), seeEntry("pooch", 1)}},
		{4, 3, impl.OK, []impl.Entry{topEntry("animal"), belowEntry("dog", 0), seeEntry("hound", 1), belowEntry("wolf", 1), seeEntry("pet", 3), seeEntry("pooch", 1)}},
		{0, 4, impl.OK, []impl.Entry{seeEntry("animal", 4), belowEntry("dog", 4), seeEntry("hound", 1), belowEntry("wolf", 1), topEntry("pet"), seeEntry("pooch", 1)}},
		{0, 1, impl.ErrState, nil}, // on its path
		{0, 3, impl.ErrState, nil},
		{1, 3, impl.ErrState, nil},
		{1, 1, impl.ErrState, nil}, // itself
		{4, 4, impl.ErrState, nil},
		{2, 4, impl.ErrState, nil}, // a synonym
		{4, 2, impl.ErrState, nil},
		{2, 1, impl.ErrState, nil},
		{1, 2, impl.ErrState, nil},
		{2, 5, impl.ErrState, nil},
		{2, 2, impl.ErrState, nil},
	} {
		got, code := impl.MergeEntries(list, x.i, x.k)
		same(t, label("MergeEntries", x.i, x.k), got, x.want)
		same(t, label("MergeEntries", x.i, x.k), code, x.code)
	}
}

func TestPromise11PutBelowByHand(t *testing.T) {
	list := animals()
	for _, x := range []struct {
		i, broader, code int64
	}{
		{3, 1, impl.OK}, {1, 3, impl.OK}, {1, 0, impl.OK}, {1, -1, impl.OK}, {0, -1, impl.OK}, {3, -1, impl.OK},
		{2, -1, impl.OK},      // a synonym has none, and keeps none
		{2, 0, impl.ErrState}, // and may have none
		{2, 1, impl.ErrState},
		{2, 2, impl.ErrState},
		{0, 0, impl.ErrState}, // itself
		{1, 1, impl.ErrState},
		{0, 1, impl.ErrState}, // what is narrower
		{0, 3, impl.ErrState},
		{1, 2, impl.ErrState}, // a synonym
		{0, 2, impl.ErrState},
		{3, 2, impl.ErrState},
		{1, -2, impl.ErrState}, // no index
		{1, 4, impl.ErrState},
		{1, 1 << 32, impl.ErrState},
		{1, -1 << 63, impl.ErrState},
		{1, 1<<63 - 1, impl.ErrState},
	} {
		got, code := impl.PutBelow(list, x.i, x.broader)
		same(t, label("PutBelow", x), code, x.code)
		if code == impl.OK {
			want := animals()
			want[x.i].Broader = x.broader
			same(t, label("PutBelow", x), got, want)
		} else {
			same(t, label("PutBelow", x), len(got), 0)
		}
	}
	deep := longCatalogue(impl.MaxEntries, false)
	_, code := impl.PutBelow(deep, 0, impl.MaxEntries-1)
	same(t, "the first one below the last one", code, int64(impl.ErrState))
	_, code = impl.PutBelow(deep, impl.MaxEntries-1, 0)
	same(t, "the last one below the first one", code, int64(impl.OK))
}

func TestPromise11EntriesAreAdded(t *testing.T) {
	r := rand.New(rand.NewSource(162))
	for _, list := range goodCatalogues() {
		n := int64(len(list))
		for _, name := range []string{"new", "a b", entryNameOf(0), "animal", "", "New", "a  b"} {
			for _, at := range append(outsideOf(len(list)), -2, r.Int63n(n+1), r.Int63n(n+1), 0) {
				for _, x := range []impl.Entry{seeEntry(name, at), belowEntry(name, at), {Name: name, See: at, Broader: at}} {
					checkAdd(t, list, x)
				}
			}
		}
	}
}

func checkAdd(t *testing.T, list []impl.Entry, x impl.Entry) {
	t.Helper()
	got, code := impl.AddEntry(list, x)
	want, wantCode := append(slices.Clone(list), x), int64(impl.OK)
	switch {
	case len(list) == impl.MaxEntries:
		want, wantCode = nil, impl.ErrLimit
	case !validIn(want):
		want, wantCode = nil, impl.ErrState
	}
	sameOf(t, got, want, "AddEntry", list, x)
	sameOf(t, code, wantCode, "AddEntry", list, x)
}

// A catalogue is made entry by entry, up to MaxEntries, and one more is too many.
func TestPromise11CataloguesThatGrow(t *testing.T) {
	for _, list := range [][]impl.Entry{longCatalogue(impl.MaxEntries, false), wideCatalogue(impl.MaxEntries, false, false)} {
		var grown []impl.Entry
		for _, e := range list {
			more, code := impl.AddEntry(grown, e)
			same(t, label("AddEntry", grown, e), code, int64(impl.OK))
			grown = more
		}
		same(t, "grown", grown, list)
		for _, x := range []impl.Entry{topEntry("new"), belowEntry("new", 0), seeEntry("new", 0), topEntry(list[0].Name), topEntry(""), seeEntry("new", 40), seeEntry("new", -2)} {
			more, code := impl.AddEntry(grown, x)
			checkCode(t, label("AddEntry", x), []any{more, code}, impl.ErrLimit)
		}
	}
}
