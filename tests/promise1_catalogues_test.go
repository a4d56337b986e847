package tests

import (
	"math/rand"
	"slices"
	"strings"
	"testing"

	"loop.example/g01261/impl"
)

// hardCatalogues, hardFiled and hardEntryNames are what a function of chapter 5 has to return for, valid or not.
func hardCatalogues() [][]impl.Entry {
	list := append(wrongCatalogues()[:60], goodCatalogues()[:28]...)
	return append(list, make([]impl.Entry, 300000), longCatalogue(300000, true), wideCatalogue(300000, true, false))
}

func hardFiled() [][]string {
	r := rand.New(rand.NewSource(190))
	return [][]string{
		nil, {}, {""}, {"dog"}, {"dog", "dog"}, wrongEntryNames(), filedNames(), namesInOrder(), randomFiled(r, 99), randomFiled(r, 100), randomFiled(r, 101),
		make([]string, 1000000), slices.Repeat([]string{"dog"}, 1000000), {strings.Repeat("a", 1000000)}, {strings.Repeat("a ", 500000)},
	}
}

func hardEntryNames() []string {
	return append(wrongEntryNames()[:60], "a", "the", "the 9 lives", strings.Repeat("9", 24), strings.Repeat(" ", 1000000), strings.Repeat("0", 1000000), strings.Repeat("a ", 500000))
}

func hardCatalogueTexts() []string {
	return append(hardTexts(), hardEntryNames()...)
}

// catalogueCallsWith calls each function that takes one of some letters, with arguments one of which is changed.
func catalogueCallsWith(takes string, change func(a *catalogueArgs)) []call {
	var list []call
	for _, c := range catalogueCalls() {
		if strings.ContainsAny(c.takes, takes) {
			list = append(list, call{c.name, func() []any { a := goodCatalogueArgs(); change(&a); return c.run(a) }})
		}
	}
	return list
}

// callsOfCatalogues gives every function of entries what is hard about one of its arguments, beside what is good.
func callsOfCatalogues() []call {
	var list []call
	add := func(takes string, change func(a *catalogueArgs)) {
		list = append(list, catalogueCallsWith(takes, change)...)
	}
	all := hardCatalogues()
	for i, entries := range all {
		other := all[max(i-1, 0)]
		list = append(list, call{"ValidCatalogue", func() []any { return []any{impl.ValidCatalogue(entries)} }}, call{"CatalogueText", func() []any { return []any{impl.CatalogueText(entries)} }})
		list = append(list, call{"SameCatalogue", func() []any {
			return []any{impl.SameCatalogue(entries, other), impl.SameCatalogue(entries, entries), impl.SameCatalogue(nil, entries)}
		}})
		for _, n := range append(hardNumbers(), 2, 3, 39, 40) {
			add("l", func(a *catalogueArgs) { a.list, a.i, a.k, a.broader = entries, n, 0, 1 })
			add("kr", func(a *catalogueArgs) { a.list, a.i, a.k, a.broader = entries, 0, n, n })
			add("x", func(a *catalogueArgs) { a.list, a.x.See = entries, n })
			add("x", func(a *catalogueArgs) { a.list, a.x.Broader = entries, n })
		}
	}
	for _, name := range hardEntryNames() {
		add("f", func(a *catalogueArgs) { a.wanted = name })
		add("x", func(a *catalogueArgs) { a.x.Name = name })
	}
	return list
}

// callsOfFiling gives every function of names what is hard about one of its arguments, beside what is good.
func callsOfFiling() []call {
	var list []call
	add := func(takes string, change func(a *catalogueArgs)) {
		list = append(list, catalogueCallsWith(takes, change)...)
	}
	for _, names := range hardFiled() {
		for _, per := range append(hardNumbers(), 2, 99, 100, 101) {
			add("n", func(a *catalogueArgs) { a.names, a.per = names, per })
		}
	}
	for _, name := range hardEntryNames() {
		add("mvw", func(a *catalogueArgs) { a.name, a.v, a.w = name, name, "dog" })
		add("mvw", func(a *catalogueArgs) { a.names, a.v, a.w = nil, "dog", name })
		list = append(list, call{"IsEntryName", func() []any { return []any{impl.IsEntryName(name)} }})
	}
	lines := []string{strings.Repeat("a\n", 500000), strings.Repeat("\n", 1000000), strings.Repeat("a;see a\n", 125000), strings.Repeat(";", 1000000), "a;see " + strings.Repeat("a", 1000000) + "\n", textIn(longCatalogue(40, true)), textIn(manyAnimals())}
	for _, text := range append(hardCatalogueTexts(), lines...) {
		list = append(list, call{"ReadCatalogue", func() []any { back, code := impl.ReadCatalogue(text); return []any{back, code} }})
	}
	return list
}

// The functions of chapter 5 leave their arguments, and what is behind them in the same memory, as they are.
func TestPromise1ArgumentsOfChapter5Stay(t *testing.T) {
	r := rand.New(rand.NewSource(191))
	for _, entries := range append(goodCatalogues()[:40], wrongCatalogues()[:30]...) {
		for k := range int64(4) {
			a := goodCatalogueArgs()
			given := slices.Clone(entries)
			list, whole := spare(entries, topEntry("behind"), topEntry("it"))
			filed := randomFiled(r, int(k)*33)
			names, all := spare(filed, "behind", "it")
			a.list, a.names, a.k = list, names, k
			a.i, a.broader = r.Int63n(int64(len(entries))+1), r.Int63n(int64(len(entries))+1)
			for _, c := range catalogueCalls() {
				c.run(a)
			}
			impl.ValidCatalogue(list)
			impl.SameCatalogue(list, list)
			impl.CatalogueText(list)
			same(t, "catalogue", whole, append(given, topEntry("behind"), topEntry("it")))
			same(t, "names", all, append(slices.Clone(filed), "behind", "it"))
		}
	}
}

// What is written into a result is seen neither in an argument nor in another result.
func TestPromise1ResultsOfChapter5AreNew(t *testing.T) {
	a := goodCatalogueArgs()
	a.i = 0
	check := func(name string, run func() []any) {
		want := label(run()...) // as a text, which nothing can change
		for range 2 {
			for _, x := range run() {
				switch list := x.(type) {
				case []int64:
					fill(list, -5)
				case []string:
					fill(list, "wiped")
				case []impl.Entry:
					fill(list, topEntry("wiped"))
				}
			}
			same(t, name, label(run()...), want)
		}
	}
	for i := range int64(4) {
		a.i = i
		for _, c := range catalogueCalls() {
			check(c.name, func() []any { return c.run(a) })
		}
		a.broader = -1 // what PutBelow leaves as it is
	}
	check("ReadCatalogue", func() []any { list, code := impl.ReadCatalogue(textIn(a.list)); return []any{list, code} })
	b := goodCatalogueArgs()
	same(t, "catalogue", a.list, b.list)
	same(t, "names", a.names, b.names)
}

// Calls beside each other have the results that each of them has alone.
func TestPromise1CallsOfChapter5BesideEachOther(t *testing.T) {
	checkBeside(t, catalogueCallsWith("lnv", func(*catalogueArgs) {}))
}
