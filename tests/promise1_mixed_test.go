package tests

import (
	"math/rand"
	"slices"
	"strings"
	"testing"

	"loop.example/g01261/impl"
)

// hardMixes, hardWords, hardLists and hardLots are what a function of chapter 3 has to return for, valid or not.
func hardMixes() []impl.Mix { return append(wrongMixes(), goodMixes()...) }

func hardWords() [][]string {
	lists := append(wrongLists(impl.MaxWords), wrongLists(impl.MaxVocabulary)...)
	return append(lists, nil, []string{}, []string{"ant"}, []string{"ant", "ant"}, manyWords(impl.MaxWords), manyWords(impl.MaxVocabulary), make([]string, 1000000), []string{strings.Repeat("a", 1000000)})
}

func hardLots() [][][]string {
	r := rand.New(rand.NewSource(90))
	return append(wrongLots(), nil, [][]string{}, [][]string{nil}, [][]string{{"ant", "bee"}, {"ant"}}, randomLot(r, 9, 3), randomLot(r, impl.MaxLot, impl.MaxWords), make([][]string, 1000000), [][]string{make([]string, 1000000)})
}

func hardMaskLists() [][]impl.Mask {
	long := slices.Repeat([]impl.Mask{fullMask}, impl.MaxLot+1)
	return [][]impl.Mask{nil, {}, {{}}, {fullMask}, invalidMasks(), long, long[1:], make([]impl.Mask, 500000), append(make([]impl.Mask, 500000-1), maskOf(96))}
}

// callsOfMixes gives every function what is hard about one of its arguments, beside what is good.
func callsOfMixes() []call {
	var list []call
	add := func(change func(a *mixArgs)) {
		for _, c := range mixCalls() {
			list = append(list, call{c.name, func() []any { a := goodArgs(); change(&a); return c.run(a) }})
		}
	}
	for _, x := range hardMixes() {
		add(func(a *mixArgs) { a.x = x })
		list = append(list, call{"ValidMix", func() []any { return []any{impl.ValidMix(x)} }}, call{"MixText", func() []any { return []any{impl.MixText(x)} }})
	}
	for _, m := range hardMasks() {
		add(func(a *mixArgs) { a.m = m })
	}
	for _, masks := range hardMaskLists() {
		add(func(a *mixArgs) { a.masks = masks })
	}
	for _, n := range append(hardNumbers(), wrongBudgets()...) {
		add(func(a *mixArgs) { a.budget = n })
	}
	for _, words := range hardWords() {
		add(func(a *mixArgs) { a.words, a.vocabulary = words, words })
		add(func(a *mixArgs) { a.words, a.vocabulary, a.m, a.budget = words, words, fullMask, impl.MaxCover })
	}
	for _, text := range append(hardTexts(), wrongWords()...) {
		list = append(list, call{"ReadMix", func() []any { x, code := impl.ReadMix(text); return []any{x, code} }}, call{"WordCheck", func() []any { check, code := impl.WordCheck(text); return []any{check, code} }})
		for _, x := range []impl.Mix{{}, {Start: 50, Size: 20, Per: 3}} {
			list = append(list, call{"WordHoles", func() []any { m, code := impl.WordHoles(x, text); return []any{m, code} }})
		}
	}
	return list
}

// callsOfLots gives every function hard lots, with mixes at the limits.
func callsOfLots() []call {
	var list []call
	for _, lot := range hardLots() {
		for _, x := range []impl.Mix{{Size: 4, Per: 1}, {Size: 4, Per: 2}, {Size: 96, Per: 8}, {Size: 96, Per: 9}} {
			for _, c := range mixCalls() {
				if strings.Contains(c.takes, "l") {
					list = append(list, call{c.name, func() []any { a := goodArgs(); a.x, a.lot = x, lot; return c.run(a) }})
				}
			}
		}
	}
	return list
}

// However hard it is to explain a mask, ExplainMask comes to its end, at the latest with its budget.
func TestPromise1HardMasksAreExplained(t *testing.T) {
	for _, x := range goodMixes() {
		vocabulary := manyWords(impl.MaxVocabulary)
		for n := range impl.MaxVocabulary + 1 {
			m := maskOfWords(x, vocabulary[:n]...)
			list, code := impl.ExplainMask(x, m, vocabulary, impl.MaxCover)
			if code == impl.OK != haveJust(x, m, vocabulary, list) || code != impl.OK && (code != impl.ErrBudget || len(list) > 0) {
				t.Errorf("%v: %d words are explained by %v, %d", x, n, list, code)
			}
		}
	}
}

// The functions of chapter 3 leave their arguments, and what is behind them in the same memory, as they are.
func TestPromise1ArgumentsOfChapter3Stay(t *testing.T) {
	r := rand.New(rand.NewSource(91))
	words := [][]string{nil, {"ant"}, {"bee", "ant", "bee"}, {"", "ant"}, manyWords(impl.MaxWords), manyWords(impl.MaxVocabulary), manyWords(impl.MaxVocabulary + 1)}
	lots := [][][]string{nil, {nil}, {{"bee", "ant"}, {"ant"}, {}}, randomLot(r, 12, 5), randomLot(r, impl.MaxLot, impl.MaxWords), randomLot(r, impl.MaxLot+1, 2)}
	for _, x := range []impl.Mix{{}, {Size: 4, Per: 2}, {Start: 50, Size: 20, Per: 3}, {Size: 96, Per: 8}} {
		for _, list := range words {
			for _, lot := range lots {
				a := mixArgs{x: x, m: joined(maskOf(0, 95), maskOfMany(x, list)), budget: impl.MaxCover}
				spared, whole := spare(list, "behind", "it")
				vocabulary, all := spare(list, "fly")
				a.words, a.vocabulary = spared, vocabulary
				lists, full := spareLot(lot)
				a.lot = lists
				masks, rest := spare([]impl.Mask{{}, a.m, fullMask}, maskOf(1), maskOf(2))
				a.masks = masks
				for _, c := range mixCalls() {
					c.run(a)
				}
				same(t, "words", whole, append(slices.Clone(list), "behind", "it"))
				same(t, "vocabulary", all, append(slices.Clone(list), "fly"))
				same(t, "masks", rest, []impl.Mask{{}, a.m, fullMask, maskOf(1), maskOf(2)})
				for i, words := range full {
					want := []string{"behind"}
					if i < len(lot) {
						want = append(slices.Clone(lot[i]), "behind")
					}
					same(t, "list of a lot", words[:cap(words)][:len(want)], want)
				}
				same(t, "lists of a lot", len(full), len(lot)+1)
			}
		}
	}
}

// maskOfMany tells the holes of the words of a list that are words, if there is a mix.
func maskOfMany(x impl.Mix, list []string) impl.Mask {
	if x.Size == 0 {
		return maskOf(3)
	}
	return maskOfWords(x, list[:len(list)/2]...)
}

// spareLot returns a lot with the same lists, each with a word in its unused capacity, and the whole of it, with a further list there.
func spareLot(lot [][]string) ([][]string, [][]string) {
	var lists [][]string
	for _, words := range lot {
		list, _ := spare(words, "behind")
		lists = append(lists, list)
	}
	return spare(lists, []string{"behind"})
}

// What is written into a result is seen neither in an argument nor in another result.
func TestPromise1ResultsOfChapter3AreNew(t *testing.T) {
	a := goodArgs()
	a.vocabulary = []string{"ant", "bee", "ant", "fly"}
	for _, c := range mixCalls() {
		want := label(c.run(a)...) // as a text, which nothing can change
		for range 2 {
			for _, x := range c.run(a) {
				switch list := x.(type) {
				case []int64:
					fill(list, -5)
				case [][2]int64:
					fill(list, [2]int64{-5, -5})
				case []impl.Mask:
					fill(list, maskOf(7))
				}
			}
			same(t, c.name, label(c.run(a)...), want)
		}
	}
	b := goodArgs()
	same(t, "masks", a.masks, b.masks)
	same(t, "lot", a.lot, b.lot)
	same(t, "words", a.words, b.words)
	same(t, "vocabulary", a.vocabulary, []string{"ant", "bee", "ant", "fly"})
}

// fill writes into a list, and into its unused capacity.
func fill[T any](list []T, x T) {
	list = list[:cap(list)]
	for i := range list {
		list[i] = x
	}
}
