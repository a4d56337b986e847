package tests

import (
	"math/big"
	"math/rand"
	"reflect"
	"regexp"
	"slices"
	"strconv"
	"strings"
	"testing"

	"loop.example/g01261/impl"
)

// sameOf is same with a label that is made just if it is needed.
func sameOf(t *testing.T, got, want any, what ...any) {
	t.Helper()
	if !reflect.DeepEqual(got, want) {
		same(t, label(what...), got, want)
	}
}

// topEntry, belowEntry and seeEntry make entries of the three kinds.
func topEntry(name string) impl.Entry { return impl.Entry{Name: name, See: -1, Broader: -1} }

func belowEntry(name string, broader int64) impl.Entry {
	return impl.Entry{Name: name, See: -1, Broader: broader}
}

func seeEntry(name string, see int64) impl.Entry {
	return impl.Entry{Name: name, See: see, Broader: -1}
}

// animals is the catalogue of the document's example.
func animals() []impl.Entry {
	return []impl.Entry{topEntry("animal"), belowEntry("dog", 0), seeEntry("hound", 1), belowEntry("cat", 0)}
}

var namePattern = regexp.MustCompile(`^[a-z0-9]+( [a-z0-9]+)*$`)

func isNameIn(name string) bool { return len(name) <= 24 && namePattern.MatchString(name) }

// aboveIn tells which entries are reached from which ones by Broader, in one step or in more.
func aboveIn(list []impl.Entry) [][]bool {
	above := make([][]bool, len(list))
	for i, e := range list {
		above[i] = make([]bool, len(list))
		if e.Broader >= 0 && e.Broader < int64(len(list)) {
			above[i][e.Broader] = true
		}
	}
	for over := range list {
		for i := range list {
			for k := range list {
				if above[i][over] && above[over][k] {
					above[i][k] = true
				}
			}
		}
	}
	return above
}

// validIn tells whether a catalogue is valid.
func validIn(list []impl.Entry) bool {
	if len(list) > 40 {
		return false
	}
	above := aboveIn(list)
	for i, e := range list {
		for _, at := range []int64{e.See, e.Broader} {
			if at < -1 || at >= int64(len(list)) || at >= 0 && list[at].See != -1 {
				return false
			}
		}
		if !isNameIn(e.Name) || e.See != -1 && e.Broader != -1 || above[i][i] {
			return false
		}
		for k := range i {
			if list[k].Name == e.Name {
				return false
			}
		}
	}
	return true
}

func preferredIn(list []impl.Entry, i int64) int64 {
	if list[i].See != -1 {
		return list[i].See
	}
	return i
}

func pathIn(list []impl.Entry, i int64) []int64 {
	at := preferredIn(list, i)
	if list[at].Broader == -1 {
		return []int64{at}
	}
	return append([]int64{at}, pathIn(list, list[at].Broader)...)
}

func narrowerIn(list []impl.Entry, i int64) []int64 {
	found := []int64{}
	above := aboveIn(list)
	for k, e := range list {
		if e.See == -1 && above[k][preferredIn(list, i)] {
			found = append(found, int64(k))
		}
	}
	return found
}

func synonymsIn(list []impl.Entry, i int64) []int64 {
	found := []int64{}
	for k, e := range list {
		if e.See != -1 && e.See == preferredIn(list, i) {
			found = append(found, int64(k))
		}
	}
	return found
}

func expandIn(list []impl.Entry, i int64) []int64 {
	found := append(narrowerIn(list, i), preferredIn(list, i))
	for _, k := range slices.Clone(found) {
		found = append(found, synonymsIn(list, k)...)
	}
	slices.Sort(found)
	return found
}

// commonIn tells the first entry that is on both paths, -1 if there is none.
func commonIn(list []impl.Entry, i, k int64) int64 {
	for _, at := range pathIn(list, i) {
		if slices.Contains(pathIn(list, k), at) {
			return at
		}
	}
	return -1
}

func topsIn(list []impl.Entry) []int64 {
	found := []int64{}
	for i, e := range list {
		if e.See == -1 && e.Broader == -1 {
			found = append(found, int64(i))
		}
	}
	return found
}

// mergedIn tells what becomes of a catalogue, by the names that each entry tells of.
func mergedIn(list []impl.Entry, i, k int64) []impl.Entry {
	after := []impl.Entry{}
	told := func(at int64) int64 {
		if at != -1 && list[at].Name == list[i].Name {
			return k
		}
		return at
	}
	for _, e := range list {
		if e.Name == list[i].Name {
			after = append(after, seeEntry(e.Name, k))
		} else {
			after = append(after, impl.Entry{Name: e.Name, See: told(e.See), Broader: told(e.Broader)})
		}
	}
	return after
}

// textIn tells the text of a valid catalogue.
func textIn(list []impl.Entry) string {
	text := ""
	for _, e := range list {
		switch {
		case e.See != -1:
			text += e.Name + ";see " + list[e.See].Name + "\n"
		case e.Broader != -1:
			text += e.Name + ";below " + list[e.Broader].Name + "\n"
		default:
			text += e.Name + "\n"
		}
	}
	return text
}

// comparedIn tells how two names are filed.
func comparedIn(a, b string) int64 {
	v, w := strings.Fields(a), strings.Fields(b)
	for _, words := range []*[]string{&v, &w} {
		if len(*words) > 1 && slices.Contains([]string{"a", "an", "the"}, (*words)[0]) {
			*words = (*words)[1:]
		}
	}
	for i := 0; i < len(v) || i < len(w); i++ {
		if i == len(v) {
			return -1
		}
		if i == len(w) {
			return 1
		}
		m, digits := new(big.Int).SetString(v[i], 10)
		n, others := new(big.Int).SetString(w[i], 10)
		order := strings.Compare(v[i], w[i])
		switch {
		case digits && others:
			order = m.Cmp(n)
		case digits:
			order = -1
		case others:
			order = 1
		}
		if order != 0 {
			return int64(order)
		}
	}
	return int64(strings.Compare(a, b))
}

// orderIn tells the order in which names are filed: the place of each one is how many come before it.
func orderIn(names []string) []int64 {
	order := make([]int64, len(names))
	for i, name := range names {
		place := 0
		for k, other := range names {
			if c := comparedIn(other, name); c < 0 || c == 0 && k < i {
				place++
			}
		}
		order[place] = int64(i)
	}
	return order
}

// entryNameOf tells a name for the entry with an index, another one for each index.
func entryNameOf(i int) string {
	switch i % 4 {
	case 0:
		return "e" + strconv.Itoa(i)
	case 1:
		return strconv.Itoa(i)
	case 2:
		return "the " + strconv.Itoa(i) + " e"
	}
	return strings.Repeat("x", 21) + " " + strconv.Itoa(i+10)
}

// randomCatalogue returns a valid catalogue of n entries, in any order.
func randomCatalogue(r *rand.Rand, n int) []impl.Entry {
	list := make([]impl.Entry, n)
	order := r.Perm(n)
	var preferred []int64
	for _, at := range order {
		list[at] = topEntry(entryNameOf(at))
		if len(preferred) > 0 {
			some := preferred[r.Intn(len(preferred))]
			if r.Intn(3) > 0 { // often the last one, so that paths become long
				some = preferred[len(preferred)-1]
			}
			switch r.Intn(6) {
			case 0:
			case 1, 2:
				list[at].See = some
			default:
				list[at].Broader = some
			}
		}
		if list[at].See == -1 {
			preferred = append(preferred, int64(at))
		}
	}
	return list
}

// longCatalogue has one path through all of its n entries, up or down.
func longCatalogue(n int, up bool) []impl.Entry {
	list := make([]impl.Entry, n)
	for i := range list {
		list[i] = belowEntry(entryNameOf(i), int64(i)-1)
		if up {
			list[i].Broader = int64((i+1)%n) - int64((i+1)/n)
		}
	}
	return list
}

// wideCatalogue has an entry in its middle of which all others are synonyms, or below which all are, and as many tops if neither.
func wideCatalogue(n int, see, below bool) []impl.Entry {
	list := make([]impl.Entry, n)
	for i := range list {
		list[i] = topEntry(entryNameOf(i))
		if i != n/2 && see {
			list[i].See = int64(n / 2)
		}
		if i != n/2 && below {
			list[i].Broader = int64(n / 2)
		}
	}
	return list
}

// goodCatalogues are valid.
func goodCatalogues() [][]impl.Entry {
	list := [][]impl.Entry{
		nil,
		{},
		{topEntry("a")},
		{topEntry(strings.Repeat("z", 24))},
		{topEntry("a b c d e f g h i j k l")},
		{topEntry("0"), topEntry("00"), topEntry("a 0"), topEntry("the"), topEntry("the the")},
		animals(),
		{seeEntry("hound", 2), belowEntry("cat", 3), belowEntry("dog", 3), topEntry("animal")},
		{topEntry("x"), seeEntry("y", 0), seeEntry("z", 0), belowEntry("w", 0), seeEntry("v", 3)},
		{topEntry("x"), belowEntry("y", 0), topEntry("z"), belowEntry("w", 2), seeEntry("v", 3), seeEntry("u", 1)},
	}
	for _, n := range []int{1, 2, 3, 39, 40} {
		list = append(list, longCatalogue(n, true), longCatalogue(n, false), wideCatalogue(n, true, false), wideCatalogue(n, false, true), wideCatalogue(n, false, false))
	}
	r := rand.New(rand.NewSource(150))
	for range 60 {
		list = append(list, randomCatalogue(r, r.Intn(41)))
	}
	return list
}

// wrongEntryNames are almost names of entries.
func wrongEntryNames() []string {
	list := []string{
		"", " ", "  ", " a", "a ", "a  b", "a b ", " a b", "a\tb", "a\nb", "a\n", "\na", "a\r", "a\x00", "\x00", "A", "aB", "Z", "a-b", "a_b", "a;b", "a;see b", "a,b", "a.", "+1", "-1", "1.5", "`", "{", "/", ":", "@", "[",
		"ä", "\xff", "a\xff", "\xe4", "a\u00a0b", "a\u2003b", "\u0663", "\uff11", "\ufffd",
		strings.Repeat("a", 25), strings.Repeat("9", 25), "a b c d e f g h i j k l m", strings.Repeat("a", 24) + " ", " " + strings.Repeat("a", 24), strings.Repeat("ab ", 8), strings.Repeat("a", 100000),
	}
	for b := range 256 {
		if !isNameIn(string([]byte{byte(b)})) {
			list = append(list, string([]byte{byte(b)}), string([]byte{'a', byte(b)}), string([]byte{byte(b), '0'}))
			if b != ' ' {
				list = append(list, string([]byte{'a', byte(b), 'z'}), string([]byte{'a', ' ', byte(b)}))
			}
		}
	}
	return list
}

// wrongCatalogues are almost valid.
func wrongCatalogues() [][]impl.Entry {
	list := [][]impl.Entry{
		{{}},
		{{Name: "a"}},
		{seeEntry("a", 0)},                       // a synonym of itself
		{belowEntry("a", 0)},                     // a circle of one
		{belowEntry("a", 1), belowEntry("b", 0)}, // a circle of two
		{topEntry("a"), seeEntry("b", 0), seeEntry("c", 1)}, // a synonym of a synonym
		{seeEntry("a", 1), seeEntry("b", 0)},
		{topEntry("a"), seeEntry("b", 1)},
		{topEntry("a"), belowEntry("b", 1)},
		{topEntry("a"), seeEntry("b", 0), belowEntry("c", 1)}, // below a synonym
		{topEntry("a"), {Name: "b", See: 0, Broader: 0}},      // a synonym with a broader one
		{topEntry("a"), topEntry("b"), {Name: "c", See: 0, Broader: 1}},
		{topEntry("a"), {Name: "b", See: 0, Broader: -2}},
		{topEntry("a"), topEntry("a")},
		{topEntry("a"), topEntry("b"), belowEntry("a", 1)},
		{topEntry("a"), seeEntry("a", 0)},
		{belowEntry("a", 1), belowEntry("b", 2), belowEntry("c", 0)},
		{belowEntry("a", 1), belowEntry("b", 2), belowEntry("c", 1), topEntry("d")}, // a circle that does not have the first one
		{topEntry("d"), belowEntry("a", 2), belowEntry("b", 3), belowEntry("c", 2)},
		append(animals(), topEntry("cat")),
		wideCatalogue(41, false, false),
		longCatalogue(41, false),
		longCatalogue(1000, true),
	}
	for _, at := range append(outsideOf(2), -2, -3) {
		if at != -1 {
			list = append(list, []impl.Entry{topEntry("a"), seeEntry("b", at)}, []impl.Entry{topEntry("a"), belowEntry("b", at)}, []impl.Entry{seeEntry("b", at), topEntry("a")}, []impl.Entry{belowEntry("b", at), topEntry("a")})
		}
	}
	circle := longCatalogue(40, false)
	circle[0].Broader = 39
	list = append(list, circle)
	for _, name := range wrongEntryNames() {
		list = append(list, []impl.Entry{topEntry(name)}, append(animals(), belowEntry(name, 0)), append(animals(), seeEntry(name, 3)))
	}
	return list
}

// outsideOf has numbers of none of n entries.
func outsideOf(n int) []int64 {
	return []int64{-1, int64(n), int64(n) + 1, 1 << 32, 1<<32 + 1, -1 << 63, 1<<63 - 1}
}

// filedNames are names which are filed in curious ways.
func filedNames() []string {
	list := []string{
		strings.Repeat("9", 24), "1" + strings.Repeat("0", 23), strings.Repeat("9", 23), "0" + strings.Repeat("9", 23), strings.Repeat("0", 24), strings.Repeat("0", 23) + "1", "18446744073709551615", "18446744073709551616", "18446744073709551617", "9223372036854775807", "9223372036854775808", "4294967296",
		"100000000000000000000001", "100000000000000000000000", "the 18446744073709551616", strings.Repeat("9", 22) + "a",
	}
	words := []string{"a", "an", "the", "ant", "b", "0", "00", "7", "07", "007", "9", "10", "9a", "10a", "a9", "a10", "then"}
	list = append(list, words...)
	for _, v := range words {
		for _, w := range words {
			list = append(list, v+" "+w)
		}
	}
	for _, v := range []string{"a", "the", "an", "7"} {
		for _, w := range []string{"a", "the", "07", "b", "7"} {
			for _, x := range []string{"a", "an", "7", "9a", "10"} {
				list = append(list, v+" "+w+" "+x)
			}
		}
	}
	return list
}

// randomFiled returns n names, some of which may be equal.
func randomFiled(r *rand.Rand, n int) []string {
	names := filedNames()
	some := make([]string, n)
	for i := range some {
		some[i] = names[r.Intn(len(names))]
		if i > 0 && r.Intn(4) == 0 {
			some[i] = some[r.Intn(i)]
		}
	}
	return some
}
