package tests

import (
	"math/rand"
	"slices"
	"strconv"
	"strings"
	"testing"

	"loop.example/g01261/impl"
)

func TestPromise11NamesOfEntries(t *testing.T) {
	for _, name := range append(filedNames(), "a", "z", "0", "9", "a1b2", "1a", "a b", "a 1 b 2", "the", strings.Repeat("a", 24), strings.Repeat("7", 24), "a b c d e f g h i j k l", strings.Repeat("a", 22)+" b") {
		same(t, label("IsEntryName", strconv.Quote(name)), impl.IsEntryName(name), true)
	}
	for _, name := range wrongEntryNames() {
		same(t, label("IsEntryName", strconv.Quote(name)), impl.IsEntryName(name), false)
	}
	r := rand.New(rand.NewSource(151))
	for range 5000 {
		text := make([]byte, r.Intn(27))
		for i := range text {
			text[i] = "abz09   "[r.Intn(8)]
		}
		if r.Intn(3) == 0 && len(text) > 0 {
			text[r.Intn(len(text))] = byte(r.Intn(256))
		}
		same(t, label("IsEntryName", strconv.Quote(string(text))), impl.IsEntryName(string(text)), isNameIn(string(text)))
	}
}

func TestPromise11ValidCatalogues(t *testing.T) {
	for _, list := range goodCatalogues() {
		same(t, label("ValidCatalogue", list), impl.ValidCatalogue(list), true)
	}
	for _, list := range wrongCatalogues() {
		same(t, label("ValidCatalogue", list), impl.ValidCatalogue(list), false)
	}
}

// Whatever one number or one name of a valid catalogue becomes, it is valid just if it should be.
func TestPromise11CataloguesWithOneThingWrong(t *testing.T) {
	r := rand.New(rand.NewSource(152))
	seen := map[bool]int{}
	for range 3000 {
		list := randomCatalogue(r, 1+r.Intn(40))
		at := r.Intn(len(list))
		other := r.Int63n(int64(len(list))+3) - 2
		switch r.Intn(4) {
		case 0:
			list[at].Name = list[r.Intn(len(list))].Name
		case 1:
			list[at].See = other
		default:
			list[at].Broader = other
		}
		want := validIn(list)
		seen[want]++
		same(t, label("ValidCatalogue", list), impl.ValidCatalogue(list), want)
	}
	if seen[true] < 300 || seen[false] < 300 {
		t.Errorf("the catalogues are not mixed: %v", seen)
	}
}

// smallCatalogues tells all catalogues of n entries that tell of numbers from -2 to the one behind the last index.
func smallCatalogues(n int, tell func(list []impl.Entry)) {
	list := make([]impl.Entry, n)
	var fill func(at int)
	fill = func(at int) {
		if at == n {
			tell(list)
			return
		}
		for see := int64(-2); see <= int64(n); see++ {
			for broader := int64(-2); broader <= int64(n); broader++ {
				list[at] = impl.Entry{Name: entryNameOf(at), See: see, Broader: broader}
				fill(at + 1)
			}
		}
	}
	fill(0)
}

// All catalogues of at most three entries, and in those that are valid all that is asked of one or of two entries.
func TestPromise11SmallCatalogues(t *testing.T) {
	for n, count := range []int{1, 1, 5, 37} {
		valid := 0
		smallCatalogues(n, func(list []impl.Entry) {
			want := validIn(list)
			if impl.ValidCatalogue(list) != want {
				t.Errorf("ValidCatalogue %v: want %v", list, want)
			}
			if want {
				valid++
				checkCatalogue(t, list)
				checkEdits(t, list)
			}
		})
		same(t, label("valid catalogues of", n), valid, count)
	}
}

func TestPromise11SameCatalogues(t *testing.T) {
	lists := append(goodCatalogues()[2:30], wrongCatalogues()[:60]...)
	for i, a := range lists {
		for k, b := range lists {
			want := slices.EqualFunc(a, b, func(d, e impl.Entry) bool {
				return d.Name == e.Name && d.See == e.See && d.Broader == e.Broader
			})
			if impl.SameCatalogue(a, b) != want || i == k && !want {
				t.Errorf("SameCatalogue %v, %v: want %v", a, b, want)
			}
		}
	}
	same(t, "nil and empty", []bool{impl.SameCatalogue(nil, nil), impl.SameCatalogue(nil, []impl.Entry{}), impl.SameCatalogue([]impl.Entry{}, nil)}, []bool{true, true, true})
	for i := range animals() {
		for _, change := range []func(e *impl.Entry){func(e *impl.Entry) { e.Name += "s" }, func(e *impl.Entry) { e.See++ }, func(e *impl.Entry) { e.Broader-- }} {
			other := animals()
			change(&other[i])
			same(t, label("SameCatalogue", other), []bool{impl.SameCatalogue(animals(), other), impl.SameCatalogue(other, animals()), impl.SameCatalogue(other, slices.Clone(other))}, []bool{false, false, true})
		}
	}
	same(t, "longer", []bool{impl.SameCatalogue(animals(), animals()[:3]), impl.SameCatalogue(animals()[:3], animals()), impl.SameCatalogue(nil, animals()), impl.SameCatalogue(animals(), nil)}, make([]bool, 4))
}

func TestPromise11EntriesAreFound(t *testing.T) {
	for _, list := range goodCatalogues() {
		for i, e := range list {
			at, code := impl.FindEntry(list, e.Name)
			sameOf(t, []int64{at, code}, []int64{int64(i), impl.OK}, "FindEntry", list, e.Name)
		}
		for _, name := range append(wrongEntryNames()[:20], "nothing", "e", "animals", "anima", "the animal", "xx 9") {
			at, code := impl.FindEntry(list, name)
			sameOf(t, []int64{at, code}, []int64{0, impl.ErrNotFound}, "FindEntry", list, name)
		}
	}
}
