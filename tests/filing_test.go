package tests

import (
	"math/rand"
	"slices"
	"strings"
	"testing"

	"loop.example/g01261/impl"
)

// namesInOrder are different names, in the order in which they are filed.
func namesInOrder() []string {
	return []string{
		"0", "00", strings.Repeat("0", 24), "a 0", "the 0", // equal but for how they are told
		"0 0", "0 00", "00 0", "0 0 0", "0 1", "0 a",
		"01", "1", "an 01", "the 1", "1 0", "1 a", "01 b", "1 b",
		"2", "the 9 lives", "10", "10 lives", "00011",
		"4294967295", "4294967296", "9223372036854775807", "9223372036854775808", "18446744073709551615", "18446744073709551616", "the 18446744073709551617",
		"0" + strings.Repeat("9", 21) + " a", strings.Repeat("9", 22), "0" + strings.Repeat("9", 23), strings.Repeat("9", 23), "1" + strings.Repeat("0", 23), "1" + strings.Repeat("0", 22) + "1", strings.Repeat("9", 24),
		"00a", "0a", "10a", strings.Repeat("9", 22) + "a", "9a", // none of these words is a number
		"a", "a a", "an a", "the a", "a a a", "the a the", "a1", "a10", "a2",
		"an", "the an", "an an an",
		"an ant", "ant", "the ant", "ant 007", "ant 7", "ant 8", "the ant 9", "ant 10", "ant 10a", "ant 8a", "ant a", "ant the", "ants",
		"a dog", "dog", "dog the 5", "dog the cat", "doga",
		"a the", "the", "the the", "the the a", "then",
		"z", strings.Repeat("z", 24),
	}
}

func TestPromise12NamesInOrder(t *testing.T) {
	names := namesInOrder()
	for i, a := range names {
		for k, b := range names {
			want := int64(0)
			switch {
			case i < k:
				want = -1
			case i > k:
				want = 1
			}
			order, code := impl.CompareNames(a, b)
			same(t, label("CompareNames", a, ",", b), []int64{order, code}, []int64{want, impl.OK})
		}
	}
}

func TestPromise12ComparedNames(t *testing.T) {
	for _, a := range filedNames() {
		for _, b := range filedNames() {
			order, code := impl.CompareNames(a, b)
			want := comparedIn(a, b)
			if order != want || code != impl.OK || (order == 0) != (a == b) {
				t.Errorf("CompareNames %q, %q: got %d and %d, want %d", a, b, order, code, want)
			}
		}
	}
}

// Any names at all are in one order: two of them are told in both ways alike, and three never go round.
func TestPromise12OneOrder(t *testing.T) {
	r := rand.New(rand.NewSource(170))
	compare := func(a, b string) int64 {
		order, code := impl.CompareNames(a, b)
		same(t, label("CompareNames", a, ",", b), code, int64(impl.OK))
		return order
	}
	for range 20000 {
		some := randomFiled(r, 3)
		ab, ba, bc, ac := compare(some[0], some[1]), compare(some[1], some[0]), compare(some[1], some[2]), compare(some[0], some[2])
		if ab != -ba || (ab == 0) != (some[0] == some[1]) || ab <= 0 && bc <= 0 && ac != min(ab, bc) || ab >= 0 && bc >= 0 && ac != max(ab, bc) {
			t.Errorf("%q: %d, %d, %d, %d", some, ab, ba, bc, ac)
		}
	}
}

// randomNames have words of a few bytes, so that they are almost equal.
func randomNames(r *rand.Rand, n int) []string {
	names := make([]string, n)
	for i := range names {
		var words []string
		for range 1 + r.Intn(4) {
			word := ""
			for range 1 + r.Intn(3) {
				word += string("0012ab"[r.Intn(6)])
			}
			words = append(words, word)
		}
		if r.Intn(3) == 0 {
			words = append([]string{[]string{"a", "an", "the"}[r.Intn(3)]}, words...)
		}
		names[i] = strings.Join(words, " ")
	}
	return names
}

func TestPromise12RandomNames(t *testing.T) {
	r := rand.New(rand.NewSource(171))
	for range 10000 {
		names := randomNames(r, 2)
		order, code := impl.CompareNames(names[0], names[1])
		same(t, label("CompareNames", names), []int64{order, code}, []int64{comparedIn(names[0], names[1]), impl.OK})
	}
}

func TestPromise12WrongNames(t *testing.T) {
	for _, name := range wrongEntryNames() {
		for _, pair := range [][2]string{{name, "a"}, {"a", name}, {name, name}} {
			order, code := impl.CompareNames(pair[0], pair[1])
			checkCode(t, label("CompareNames", pair), []any{order, code}, impl.ErrInvalid)
		}
	}
}

// checkFiled checks the order of names, all drawers of them, and where names are put.
func checkFiled(t *testing.T, names []string, pers []int64, others []string) {
	t.Helper()
	order, code := impl.FileOrder(names)
	want := orderIn(names)
	same(t, label("FileOrder", names), order, want)
	same(t, label("FileOrder", names), code, int64(impl.OK))
	for _, per := range pers {
		var guides []string
		for at := int64(0); at < int64(len(names)); at += per {
			guides = append(guides, names[want[at]])
		}
		got, code := impl.GuidesFor(names, per)
		same(t, label("GuidesFor", names, per), got, guides)
		same(t, label("GuidesFor", names, per), code, int64(impl.OK))
		for _, name := range others {
			drawer, code := impl.DrawerOf(names, per, name)
			want := []int64{drawerIn(guides, name), impl.OK}
			if len(names) == 0 {
				want = []int64{0, impl.ErrNotFound}
			}
			if drawer != want[0] || code != want[1] {
				t.Errorf("DrawerOf %q, %d, %q: got %d and %d, want %d", names, per, name, drawer, code, want)
			}
		}
	}
}

// drawerIn looks for the drawer of a name from the last one on.
func drawerIn(guides []string, name string) int64 {
	for at := len(guides) - 1; at > 0; at-- {
		if comparedIn(guides[at], name) <= 0 {
			return int64(at)
		}
	}
	return 0
}

func TestPromise12FiledNames(t *testing.T) {
	r := rand.New(rand.NewSource(172))
	for _, n := range []int{0, 1, 2, 3, 5, 10, 50, 99, 100} {
		for range 3 {
			names := randomFiled(r, n)
			checkFiled(t, names, []int64{1, 2, 3, 7, 50, 99, 100}, append(randomFiled(r, 20), names[:min(n, 20)]...))
		}
	}
	for range 200 {
		names := randomNames(r, r.Intn(12))
		checkFiled(t, names, []int64{1, 2, 3, 4, 11, 12, 100}, append(randomNames(r, 5), names...))
	}
}

// All names come to the places that they have in the order by hand, however they are mixed.
func TestPromise12MixedNamesInOrder(t *testing.T) {
	r := rand.New(rand.NewSource(173))
	names := namesInOrder()
	for range 20 {
		mixed := slices.Clone(names)
		r.Shuffle(len(mixed), func(i, k int) { mixed[i], mixed[k] = mixed[k], mixed[i] })
		order, code := impl.FileOrder(mixed)
		var filed []string
		for _, i := range order {
			filed = append(filed, mixed[i])
		}
		same(t, "FileOrder", filed, names)
		same(t, "FileOrder", code, int64(impl.OK))
		guides, code := impl.GuidesFor(mixed, 1)
		same(t, "GuidesFor", guides, names)
		same(t, "GuidesFor", code, int64(impl.OK))
	}
}

// Equal names stay in the order in which they are, also if there are many.
func TestPromise12EqualNamesStayInOrder(t *testing.T) {
	names := slices.Repeat([]string{"dog", "cat"}, 50)
	order, code := impl.FileOrder(names)
	var want []int64
	for i := range int64(100) {
		want = append(want, (2*i+1)%100-i/50)
	}
	same(t, "FileOrder", order, want)
	same(t, "FileOrder", code, int64(impl.OK))
	order, _ = impl.FileOrder(slices.Repeat([]string{"dog"}, 100))
	same(t, "FileOrder", order, rising(100))
}

func TestPromise12DrawersByHand(t *testing.T) {
	names := []string{"the 9 lives", "dog", "cat", "10 lives", "ant", "bee", "cat"}
	// 9 lives, 10 lives; ant, bee; cat, cat; dog
	order, code := impl.FileOrder(names)
	same(t, "FileOrder", order, []int64{0, 3, 4, 5, 2, 6, 1})
	same(t, "FileOrder", code, int64(impl.OK))
	guides, code := impl.GuidesFor(names, 2)
	same(t, "GuidesFor", guides, []string{"the 9 lives", "ant", "cat", "dog"})
	same(t, "GuidesFor", code, int64(impl.OK))
	for _, x := range []struct {
		name       string
		per, where int64
	}{
		{"the 9 lives", 2, 0}, {"10 lives", 2, 0}, {"ant", 2, 1}, {"bee", 2, 1}, {"cat", 2, 2}, {"dog", 2, 3},
		{"8 lives", 2, 0}, {"0", 2, 0}, {"9 lives", 2, 0}, // before the first guide, the last one just for the word that is left out
		{"11", 2, 0}, {"a ant", 2, 0}, {"an ant", 2, 0}, {"the ant", 2, 1}, {"bug", 2, 1}, {"the cat", 2, 2}, {"a cat", 2, 1}, {"cats", 2, 2}, {"zebra", 2, 3}, // behind the last one
		{"cat", 1, 5}, {"cat", 5, 1}, // it is in two drawers: the last one of them
		{"dog", 1, 6}, {"0", 1, 0}, {"zebra", 1, 6}, {"cat", 4, 1}, {"cats", 5, 1}, {"dog", 7, 0}, {"zebra", 100, 0}, {"0", 100, 0}, {"dog", 6, 1}, {"dime", 6, 0},
	} {
		drawer, code := impl.DrawerOf(names, x.per, x.name)
		same(t, label("DrawerOf", x), []int64{drawer, code}, []int64{x.where, impl.OK})
	}
}

func TestPromise12NoNames(t *testing.T) {
	for _, names := range [][]string{nil, {}} {
		for _, per := range []int64{1, 2, impl.MaxFiled} {
			checkFiled(t, names, []int64{per}, []string{"dog"})
		}
	}
}

// The example of the document.
func TestPromise12ExampleOfChapter5(t *testing.T) {
	for _, x := range [][2]string{{"the 9 lives", "10 lives"}, {"10 lives", "a dog"}, {"the 9 lives", "a dog"}} {
		order, code := impl.CompareNames(x[0], x[1])
		same(t, label("CompareNames", x), []int64{order, code}, []int64{-1, impl.OK})
	}
}
