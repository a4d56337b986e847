package tests

import (
	"slices"
	"testing"

	"loop.example/g01261/impl"
)

// checkCatalogue checks all that is asked of the entries of a valid catalogue.
func checkCatalogue(t *testing.T, list []impl.Entry) {
	t.Helper()
	tops, code := impl.TopsOf(list)
	sameOf(t, tops, topsIn(list), "TopsOf", list)
	sameOf(t, code, int64(impl.OK), "TopsOf", list)
	for i := range int64(len(list)) {
		preferred, code := impl.PreferredOf(list, i)
		sameOf(t, []int64{preferred, code}, []int64{preferredIn(list, i), impl.OK}, "PreferredOf", list, i)
		for _, x := range []struct {
			name string
			ask  func([]impl.Entry, int64) ([]int64, int64)
			want []int64
		}{
			{"PathUp", impl.PathUp, pathIn(list, i)},
			{"NarrowerOf", impl.NarrowerOf, narrowerIn(list, i)},
			{"SynonymsOf", impl.SynonymsOf, synonymsIn(list, i)},
			{"ExpandEntry", impl.ExpandEntry, expandIn(list, i)},
		} {
			got, code := x.ask(list, i)
			sameOf(t, got, x.want, x.name, list, i)
			sameOf(t, code, int64(impl.OK), x.name, list, i)
		}
		for k := range int64(len(list)) {
			checkCommon(t, list, i, k)
		}
	}
}

func checkCommon(t *testing.T, list []impl.Entry, i, k int64) {
	t.Helper()
	common, code := impl.CommonBroader(list, i, k)
	want := []int64{commonIn(list, i, k), impl.OK}
	if want[0] == -1 {
		want = []int64{0, impl.ErrNotFound}
	}
	sameOf(t, []int64{common, code}, want, "CommonBroader", list, i, k)
}

func TestPromise11Entries(t *testing.T) {
	for _, list := range goodCatalogues() {
		checkCatalogue(t, list)
	}
}

// An entry is in what another one is expanded to just if this one's preferred entry is on its path.
func TestPromise11ExpandedEntriesHaveAll(t *testing.T) {
	for _, list := range goodCatalogues() {
		for i := range int64(len(list)) {
			all, _ := impl.ExpandEntry(list, i)
			top, _ := impl.PreferredOf(list, i)
			narrower, _ := impl.NarrowerOf(list, i)
			for k := range int64(len(list)) {
				path, _ := impl.PathUp(list, k)
				means, _ := impl.PreferredOf(list, k)
				sameOf(t, slices.Contains(all, k), slices.Contains(path, top), "ExpandEntry", list, i, k)
				sameOf(t, slices.Contains(narrower, k), k == means && slices.Contains(path[1:], top), "NarrowerOf", list, i, k)
			}
			sameOf(t, slices.IsSorted(all), true, "ExpandEntry", list, i)
		}
	}
}

// What all tops are expanded to is the whole catalogue, each entry once.
func TestPromise11TopsHaveAll(t *testing.T) {
	for _, list := range goodCatalogues() {
		tops, _ := impl.TopsOf(list)
		var all []int64
		for _, i := range tops {
			some, code := impl.ExpandEntry(list, i)
			sameOf(t, code, int64(impl.OK), "ExpandEntry", list, i)
			all = append(all, some...)
		}
		slices.Sort(all)
		sameOf(t, all, rising(int64(len(list))), "TopsOf", list)
	}
}

func TestPromise11ExpandByHand(t *testing.T) {
	list := []impl.Entry{
		seeEntry("pooch", 4), belowEntry("poodle", 4), topEntry("animal"), topEntry("stone"), belowEntry("dog", 2),
		seeEntry("beast", 2), belowEntry("cat", 2), seeEntry("rock", 3), belowEntry("toy poodle", 1), seeEntry("kitty", 6),
	}
	for _, x := range []struct {
		i                          int64
		path, narrower, same, with []int64
	}{
		{0, []int64{4, 2}, []int64{1, 8}, []int64{0}, []int64{0, 1, 4, 8}},
		{1, []int64{1, 4, 2}, []int64{8}, nil, []int64{1, 8}},
		{2, []int64{2}, []int64{1, 4, 6, 8}, []int64{5}, []int64{0, 1, 2, 4, 5, 6, 8, 9}},
		{3, []int64{3}, nil, []int64{7}, []int64{3, 7}},
		{5, []int64{2}, []int64{1, 4, 6, 8}, []int64{5}, []int64{0, 1, 2, 4, 5, 6, 8, 9}},
		{7, []int64{3}, nil, []int64{7}, []int64{3, 7}},
		{8, []int64{8, 1, 4, 2}, nil, nil, []int64{8}},
		{9, []int64{6, 2}, nil, []int64{9}, []int64{6, 9}},
	} {
		path, one := impl.PathUp(list, x.i)
		narrower, two := impl.NarrowerOf(list, x.i)
		synonyms, three := impl.SynonymsOf(list, x.i)
		all, four := impl.ExpandEntry(list, x.i)
		same(t, label("codes", x.i), []int64{one, two, three, four}, make([]int64, 4))
		same(t, label("PathUp", x.i), path, x.path)
		same(t, label("NarrowerOf", x.i), narrower, x.narrower)
		same(t, label("SynonymsOf", x.i), synonyms, x.same)
		same(t, label("ExpandEntry", x.i), all, x.with)
	}
	for _, x := range [][4]int64{
		{8, 9, 2, impl.OK}, {9, 8, 2, impl.OK}, {8, 0, 4, impl.OK}, {0, 8, 4, impl.OK}, {1, 8, 1, impl.OK}, {8, 1, 1, impl.OK}, {5, 5, 2, impl.OK}, {0, 4, 4, impl.OK},
		{3, 2, 0, impl.ErrNotFound}, {7, 8, 0, impl.ErrNotFound}, {3, 7, 3, impl.OK},
	} {
		common, code := impl.CommonBroader(list, x[0], x[1])
		same(t, label("CommonBroader", x), []int64{common, code}, x[2:])
	}
	tops, code := impl.TopsOf(list)
	same(t, "TopsOf", tops, []int64{2, 3})
	same(t, "TopsOf", code, int64(impl.OK))
}

// The example of the document.
func TestPromise11ExampleOfChapter5(t *testing.T) {
	list := animals()
	for i, want := range [][]int64{{0, 1, 2, 3}, {1, 2}, {1, 2}, {3}} {
		all, code := impl.ExpandEntry(list, int64(i))
		same(t, label("ExpandEntry", i), all, want)
		same(t, label("ExpandEntry", i), code, int64(impl.OK))
	}
	common, code := impl.CommonBroader(list, 2, 3)
	same(t, "CommonBroader", []int64{common, code}, []int64{0, impl.OK})
}

// The path of the lowest one of MaxEntries entries has all of them, and the highest one has all others below it.
func TestPromise11LongestPath(t *testing.T) {
	list := longCatalogue(impl.MaxEntries, false)
	path, code := impl.PathUp(list, impl.MaxEntries-1)
	slices.Reverse(path)
	same(t, "PathUp", path, rising(impl.MaxEntries))
	same(t, "PathUp", code, int64(impl.OK))
	narrower, code := impl.NarrowerOf(list, 0)
	same(t, "NarrowerOf", narrower, rising(impl.MaxEntries)[1:])
	same(t, "NarrowerOf", code, int64(impl.OK))
	common, code := impl.CommonBroader(list, impl.MaxEntries-1, 7)
	same(t, "CommonBroader", []int64{common, code}, []int64{7, impl.OK})
}
