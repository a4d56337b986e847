package tests

import (
	"slices"
	"strings"
	"testing"

	"loop.example/g01261/impl"
)

// catalogueArgs are arguments for the functions of chapter 5; each function takes some of them.
type catalogueArgs struct {
	list               []impl.Entry
	i, k, broader, per int64
	x                  impl.Entry
	names              []string
	wanted, name, v, w string
}

// goodCatalogueArgs are arguments with which every function of chapter 5 returns OK.
func goodCatalogueArgs() catalogueArgs {
	return catalogueArgs{
		list: animals(), i: 1, k: 3, broader: 3, per: 2, x: seeEntry("puppy", 1),
		names: []string{"dog", "the ant", "7 cats", "dog 10", "dog 9"}, wanted: "cat", name: "dog 5", v: "a dog", w: "10 lives",
	}
}

// catalogueCall is a function of chapter 5, and what it takes: l a catalogue, y one that must not be full, i and k indices, r a broader entry, x an entry, f a name that is looked for, n names, z names of which there must be some, p the number of names of a drawer, m the name for a drawer, and v and w names that are compared.
type catalogueCall struct {
	name, takes string
	run         func(a catalogueArgs) []any
}

func catalogueCalls() []catalogueCall {
	return []catalogueCall{
		{"FindEntry", "lf", func(a catalogueArgs) []any { at, code := impl.FindEntry(a.list, a.wanted); return []any{at, code} }},
		{"PreferredOf", "li", func(a catalogueArgs) []any { at, code := impl.PreferredOf(a.list, a.i); return []any{at, code} }},
		{"PathUp", "li", func(a catalogueArgs) []any { path, code := impl.PathUp(a.list, a.i); return []any{path, code} }},
		{"NarrowerOf", "li", func(a catalogueArgs) []any { all, code := impl.NarrowerOf(a.list, a.i); return []any{all, code} }},
		{"SynonymsOf", "li", func(a catalogueArgs) []any { all, code := impl.SynonymsOf(a.list, a.i); return []any{all, code} }},
		{"ExpandEntry", "li", func(a catalogueArgs) []any { all, code := impl.ExpandEntry(a.list, a.i); return []any{all, code} }},
		{"CommonBroader", "lik", func(a catalogueArgs) []any {
			at, code := impl.CommonBroader(a.list, a.i, a.k)
			return []any{at, code}
		}},
		{"TopsOf", "l", func(a catalogueArgs) []any { tops, code := impl.TopsOf(a.list); return []any{tops, code} }},
		{"AddEntry", "lyx", func(a catalogueArgs) []any { after, code := impl.AddEntry(a.list, a.x); return []any{after, code} }},
		{"PutBelow", "lir", func(a catalogueArgs) []any {
			after, code := impl.PutBelow(a.list, a.i, a.broader)
			return []any{after, code}
		}},
		{"MergeEntries", "lik", func(a catalogueArgs) []any {
			after, code := impl.MergeEntries(a.list, a.i, a.k)
			return []any{after, code}
		}},
		{"CompareNames", "vw", func(a catalogueArgs) []any { order, code := impl.CompareNames(a.v, a.w); return []any{order, code} }},
		{"FileOrder", "n", func(a catalogueArgs) []any { order, code := impl.FileOrder(a.names); return []any{order, code} }},
		{"GuidesFor", "np", func(a catalogueArgs) []any {
			guides, code := impl.GuidesFor(a.names, a.per)
			return []any{guides, code}
		}},
		{"DrawerOf", "nzpm", func(a catalogueArgs) []any {
			drawer, code := impl.DrawerOf(a.names, a.per, a.name)
			return []any{drawer, code}
		}},
	}
}

// spoilCatalogue is a way to spoil one argument, so that all functions fail with a code which take what has the letter.
type spoilCatalogue struct {
	takes, argument string
	code            int64
	spoil           func(a *catalogueArgs)
}

// codeFor tells the code of a function for some spoilt arguments.
func codeFor(c catalogueCall, spoilt ...spoilCatalogue) int64 {
	for _, code := range []int64{impl.ErrInvalid, impl.ErrLimit, impl.ErrRange, impl.ErrState, impl.ErrNotFound} {
		for _, x := range spoilt {
			if x.code == code && strings.Contains(c.takes, x.takes) {
				return code
			}
		}
	}
	return impl.OK
}

// manyAnimals has the animals and further ones.
func manyAnimals() []impl.Entry {
	list := animals()
	for i := len(list); i < impl.MaxEntries; i++ {
		list = append(list, belowEntry(entryNameOf(i), 0))
	}
	return list
}

// invalidCatalogueArgs spoil arguments so that they are not valid.
func invalidCatalogueArgs(lists [][]impl.Entry, names []string) []spoilCatalogue {
	var all []spoilCatalogue
	add := func(takes, argument string, spoil func(a *catalogueArgs)) {
		all = append(all, spoilCatalogue{takes, argument, impl.ErrInvalid, spoil})
	}
	for _, list := range lists {
		add("l", "list", func(a *catalogueArgs) { a.list = list })
	}
	for _, name := range names {
		add("n", "names", func(a *catalogueArgs) { a.names = append(slices.Clone(a.names), name) })
		add("n", "names", func(a *catalogueArgs) { a.names = append([]string{name}, a.names...) })
		add("n", "names", func(a *catalogueArgs) { a.names = []string{name} })
		add("m", "name", func(a *catalogueArgs) { a.name = name })
		add("v", "v", func(a *catalogueArgs) { a.v = name })
		add("w", "w", func(a *catalogueArgs) { a.w = name })
	}
	return all
}

// otherCatalogueArgs spoil arguments so that a function returns another code.
func otherCatalogueArgs() []spoilCatalogue {
	var all []spoilCatalogue
	add := func(takes, argument string, code int64, spoil func(a *catalogueArgs)) {
		all = append(all, spoilCatalogue{takes, argument, code, spoil})
	}
	for _, n := range []int{impl.MaxFiled + 1, impl.MaxFiled + 2, 5000} {
		add("n", "names", impl.ErrLimit, func(a *catalogueArgs) { a.names = slices.Repeat([]string{"dog"}, n) })
	}
	add("y", "list", impl.ErrLimit, func(a *catalogueArgs) { a.list = manyAnimals() })
	for _, at := range outsideOf(impl.MaxEntries) {
		add("i", "i", impl.ErrRange, func(a *catalogueArgs) { a.i = at })
		add("k", "k", impl.ErrRange, func(a *catalogueArgs) { a.k = at })
	}
	for _, per := range []int64{0, -1, impl.MaxFiled + 1, impl.MaxFiled + 2, 1 << 32, 1<<32 + 2, -1 << 63, 1<<63 - 1} {
		add("p", "per", impl.ErrRange, func(a *catalogueArgs) { a.per = per })
	}
	for _, at := range append(outsideOf(impl.MaxEntries)[1:], 1, 2, -2) {
		add("r", "broader", impl.ErrState, func(a *catalogueArgs) { a.broader = at })
	}
	for _, x := range []impl.Entry{{}, seeEntry("puppy", 2), belowEntry("puppy", 2), topEntry("cat"), topEntry("Puppy"), {Name: "puppy", See: 1, Broader: 0}, seeEntry("puppy", 4), belowEntry("puppy", 4), belowEntry("puppy", -2), seeEntry("puppy", -2)} {
		add("x", "x", impl.ErrState, func(a *catalogueArgs) { a.x = x })
	}
	for _, name := range []string{"lion", "", "cats", "the cat", "Cat"} {
		add("f", "wanted", impl.ErrNotFound, func(a *catalogueArgs) { a.wanted = name })
	}
	add("z", "names", impl.ErrNotFound, func(a *catalogueArgs) { a.names = nil })
	add("z", "names", impl.ErrNotFound, func(a *catalogueArgs) { a.names = []string{} })
	return all
}

// Each thing that is wrong is told of each function that takes it, and of no other one.
func TestErrorsOfChapter5(t *testing.T) {
	spoilt := append(invalidCatalogueArgs(wrongCatalogues(), wrongEntryNames()), otherCatalogueArgs()...)
	for _, c := range catalogueCalls() {
		checkCode(t, c.name, c.run(goodCatalogueArgs()), impl.OK)
		for _, x := range spoilt {
			a := goodCatalogueArgs()
			x.spoil(&a)
			checkCode(t, c.name+" "+x.argument, c.run(a), codeFor(c, x))
		}
	}
}

// Of two things that are wrong the one is told that comes first in the document.
func TestOrderOfErrorsInChapter5(t *testing.T) {
	lists := [][]impl.Entry{{{}}, append(animals(), topEntry("cat")), {belowEntry("a", 1), belowEntry("b", 0)}, wideCatalogue(41, false, false)}
	spoilt := append(invalidCatalogueArgs(lists, []string{"", "Dog", "a  b", strings.Repeat("a", 25)}), otherCatalogueArgs()...)
	for _, c := range catalogueCalls() {
		for _, x := range spoilt {
			for _, y := range spoilt {
				if x.argument == y.argument {
					continue
				}
				a := goodCatalogueArgs()
				x.spoil(&a)
				y.spoil(&a)
				checkCode(t, c.name+" "+x.argument+" and "+y.argument, c.run(a), codeFor(c, x, y))
			}
		}
	}
}

// Too many names are told of behind a name that is none, wherever it is, and before all else.
func TestNamesThatAreTooManyAndNone(t *testing.T) {
	for _, n := range []int{impl.MaxFiled + 1, 1000} {
		for _, at := range []int{0, 50, n - 1} {
			for _, per := range []int64{2, 0} {
				a := goodCatalogueArgs()
				a.names, a.per = slices.Repeat([]string{"dog"}, n), per
				for _, c := range catalogueCalls() {
					if strings.Contains(c.takes, "n") {
						checkCode(t, c.name, c.run(a), impl.ErrLimit)
					}
				}
				a.names[at] = "dog "
				for _, c := range catalogueCalls() {
					if strings.Contains(c.takes, "n") {
						checkCode(t, c.name, c.run(a), impl.ErrInvalid)
					}
				}
			}
		}
	}
}

// An index that is none is told of before what cannot be merged, and before what has nothing in common.
func TestRangeComesFirstInChapter5(t *testing.T) {
	list := append(animals(), topEntry("stone"))
	for _, at := range outsideOf(len(list)) {
		for k := range int64(len(list)) {
			for _, pair := range [][2]int64{{at, k}, {k, at}, {at, at}} {
				after, code := impl.MergeEntries(list, pair[0], pair[1])
				checkCode(t, label("MergeEntries", pair), []any{after, code}, impl.ErrRange)
				common, code := impl.CommonBroader(list, pair[0], pair[1])
				checkCode(t, label("CommonBroader", pair), []any{common, code}, impl.ErrRange)
			}
		}
		for _, broader := range []int64{-1, 0, 2, 5, -2} {
			after, code := impl.PutBelow(list, at, broader)
			checkCode(t, label("PutBelow", at, broader), []any{after, code}, impl.ErrRange)
		}
	}
	common, code := impl.CommonBroader(list, 2, 4)
	checkCode(t, "CommonBroader", []any{common, code}, impl.ErrNotFound)
	after, code := impl.MergeEntries(list, 2, 4)
	checkCode(t, "MergeEntries", []any{after, code}, impl.ErrState)
}

// The empty catalogue has no entry, and every function says so.
func TestEmptyCatalogue(t *testing.T) {
	for _, list := range [][]impl.Entry{nil, {}} {
		for _, i := range hardNumbers() {
			a := catalogueArgs{list: list, i: i, k: i, broader: -1}
			for _, c := range catalogueCalls() {
				if strings.Contains(c.takes, "i") {
					checkCode(t, c.name, c.run(a), impl.ErrRange)
				}
			}
		}
		tops, code := impl.TopsOf(list)
		same(t, "TopsOf", []int64{int64(len(tops)), code}, []int64{0, impl.OK})
		at, code := impl.FindEntry(list, "dog")
		checkCode(t, "FindEntry", []any{at, code}, impl.ErrNotFound)
		more, code := impl.AddEntry(list, topEntry("dog"))
		same(t, "AddEntry", more, []impl.Entry{topEntry("dog")})
		same(t, "AddEntry", code, int64(impl.OK))
		for _, x := range []impl.Entry{belowEntry("dog", 0), seeEntry("dog", 0), {}} {
			more, code := impl.AddEntry(list, x)
			checkCode(t, label("AddEntry", x), []any{more, code}, impl.ErrState)
		}
	}
}

// All limits may be reached: MaxEntries entries, MaxEntryName bytes, MaxFiled names, and a drawer with 1 or with MaxFiled of them.
func TestLimitsOfChapter5(t *testing.T) {
	a := goodCatalogueArgs()
	long := strings.Repeat("z", impl.MaxEntryName)
	a.list = manyAnimals()[:impl.MaxEntries-1]
	a.names = slices.Repeat([]string{long, "0"}, impl.MaxFiled/2)
	a.x.Name, a.name, a.v, a.w = long, long, long, strings.Repeat("9", impl.MaxEntryName)
	for _, per := range []int64{1, 99, impl.MaxFiled} {
		a.per = per
		for _, c := range catalogueCalls() {
			checkCode(t, c.name, c.run(a), impl.OK)
		}
	}
	full := manyAnimals()
	same(t, "ValidCatalogue", impl.ValidCatalogue(full), true)
	for i := range int64(impl.MaxEntries) {
		b := goodCatalogueArgs()
		b.list, b.i, b.k = full, i, 0
		for _, c := range catalogueCalls() {
			if c.takes == "li" {
				checkCode(t, c.name, c.run(b), impl.OK)
			}
		}
	}
	guides, code := impl.GuidesFor(a.names, 1)
	same(t, "GuidesFor", []int64{int64(len(guides)), code}, []int64{100, impl.OK})
	guides, code = impl.GuidesFor(a.names, impl.MaxFiled)
	same(t, "GuidesFor", guides, []string{"0"})
	same(t, "GuidesFor", code, int64(impl.OK))
}
