package tests

import (
	"math/rand"
	"slices"
	"testing"

	"loop.example/g01261/impl"
)

// maybeIn tells which words of a vocabulary may be in a mask.
func maybeIn(x impl.Mix, m impl.Mask, vocabulary []string) []int64 {
	maybe := []int64{}
	for i, word := range vocabulary {
		if isIn(maskOfWords(x, word), m) {
			maybe = append(maybe, int64(i))
		}
	}
	return maybe
}

// haveJust tells whether the words with some indices have just the holes of the mix that are in a mask.
func haveJust(x impl.Mix, m impl.Mask, vocabulary []string, list []int64) bool {
	var words []string
	for _, i := range list {
		words = append(words, vocabulary[i])
	}
	told := lessOf(m, lessOf(fullMask, partIn(x)))
	return maskOfWords(x, words...) == told
}

// triesOf tells all lists of at most `most` of some indices, the shorter ones first.
func triesOf(indices []int64, most int) [][]int64 {
	level := [][]int64{{}}
	all := [][]int64{{}}
	for range min(most, len(indices)) {
		var next [][]int64
		for _, list := range level {
			for _, i := range indices {
				if len(list) == 0 || i > list[len(list)-1] {
					next = append(next, append(slices.Clone(list), i))
				}
			}
		}
		all = append(all, next...)
		level = next
	}
	return all
}

// triesFor tells how many tries it takes to explain a mask, and the words that do.
func triesFor(x impl.Mix, m impl.Mask, vocabulary []string) (int64, []int64) {
	maybe := maybeIn(x, m, vocabulary)
	for k, list := range triesOf(maybe, len(maybe)) {
		if haveJust(x, m, vocabulary, list) {
			return int64(k) + 1, list
		}
	}
	return 0, nil
}

// checkExplain compares ExplainMask with what triesFor tells, at budgets about the number of tries.
func checkExplain(t *testing.T, x impl.Mix, m impl.Mask, vocabulary []string, tries int64, want []int64) {
	t.Helper()
	for _, budget := range []int64{0, 1, tries - 2, tries - 1, tries, tries + 1, impl.MaxCover - 1, impl.MaxCover} {
		if budget < 0 || budget > impl.MaxCover {
			continue
		}
		list, code := impl.ExplainMask(x, m, vocabulary, budget)
		if budget < tries {
			same(t, label("ExplainMask", x, m, vocabulary, budget), list, []int64{})
			same(t, label("ExplainMask", x, m, vocabulary, budget), code, int64(impl.ErrBudget))
		} else {
			same(t, label("ExplainMask", x, m, vocabulary, budget), list, want)
			same(t, label("ExplainMask", x, m, vocabulary, budget), code, int64(impl.OK))
		}
	}
}

// beside returns a mask with further holes outside of a mix.
func beside(r *rand.Rand, x impl.Mix, m impl.Mask) impl.Mask {
	return joined(m, lessOf(randomMask(r), partIn(x)))
}

// Masks of some words of a vocabulary, and other ones: what may be in them, what has to be, and what explains them.
func TestPromise7WordsThatExplain(t *testing.T) {
	r := rand.New(rand.NewSource(80))
	explained, missing := map[int]int{}, 0
	for _, x := range goodMixes() {
		for range 25 {
			var vocabulary []string
			for range r.Intn(13) {
				vocabulary = append(vocabulary, randomWord(r))
			}
			if len(vocabulary) > 3 && r.Intn(3) == 0 {
				vocabulary[3] = vocabulary[0]
			}
			var some []string
			for _, word := range vocabulary {
				if r.Intn(3) == 0 {
					some = append(some, word)
				}
			}
			m := maskOfWords(x, some...)
			if r.Intn(5) == 0 {
				m = joined(m, maskOf(int64(x.Start)+r.Int63n(int64(x.Size))))
			}
			m = beside(r, x, m)
			maybe, code := impl.MaybeWords(x, m, vocabulary)
			same(t, label("MaybeWords", x, m, vocabulary), maybe, maybeIn(x, m, vocabulary))
			same(t, label("MaybeWords", x, m, vocabulary), code, int64(impl.OK))
			enough := haveJust(x, m, vocabulary, maybe)
			sure, code := impl.SureWords(x, m, vocabulary)
			if !enough {
				missing++
				same(t, label("SureWords", x, m, vocabulary), sure, []int64{})
				same(t, label("SureWords", x, m, vocabulary), code, int64(impl.ErrNotFound))
				for _, budget := range []int64{0, 1, impl.MaxCover} {
					list, code := impl.ExplainMask(x, m, vocabulary, budget)
					same(t, label("ExplainMask", x, m, vocabulary), list, []int64{})
					same(t, label("ExplainMask", x, m, vocabulary), code, int64(impl.ErrNotFound))
				}
				continue
			}
			want := []int64{}
			for _, i := range maybe {
				others := slices.DeleteFunc(slices.Clone(maybe), func(k int64) bool { return k == i })
				if !haveJust(x, m, vocabulary, others) {
					want = append(want, i)
				}
			}
			same(t, label("SureWords", x, m, vocabulary), sure, want)
			same(t, label("SureWords", x, m, vocabulary), code, int64(impl.OK))
			tries, list := triesFor(x, m, vocabulary)
			checkExplain(t, x, m, vocabulary, tries, list)
			explained[len(list)]++
			if !less(sure, list) {
				t.Errorf("%v: %v is sure, but %v explains", x, sure, list)
			}
		}
	}
	if missing < 20 || explained[0] < 20 || explained[1] < 20 || explained[2] < 20 || explained[3] < 20 || explained[4] < 5 {
		t.Errorf("masks explained by so many words: %v, masks not explained: %d", explained, missing)
	}
}

// wordsApart returns n words that have no hole of the mix in common.
func wordsApart(x impl.Mix, n int) []string {
	var words []string
	var taken impl.Mask
	for _, word := range manyWords(600) {
		m := maskOfWords(x, word)
		if len(words) < n && lessOf(m, taken) == m {
			words = append(words, word)
			taken = joined(taken, m)
		}
	}
	return words
}

// With words that have nothing in common the last list of all alone explains the mask: each list is a try, from the empty one on.
func TestPromise7EachTryCounts(t *testing.T) {
	x := impl.Mix{Start: 0, Size: 96, Per: 1}
	for n := range 13 {
		words := wordsApart(x, n)
		m := maskOfWords(x, words...)
		same(t, "words apart", len(words), n)
		tries := int64(1) << n
		list, code := impl.ExplainMask(x, m, words, min(tries, impl.MaxCover))
		if tries > impl.MaxCover {
			same(t, label("too many tries", n), list, []int64{})
			same(t, label("too many tries", n), code, int64(impl.ErrBudget))
			continue
		}
		same(t, label("all words", n), len(list), n)
		same(t, label("all words", n), code, int64(impl.OK))
		list, code = impl.ExplainMask(x, m, words, tries-1)
		same(t, label("a try less", n), list, []int64{})
		same(t, label("a try less", n), code, int64(impl.ErrBudget))
		sure, code := impl.SureWords(x, m, words)
		same(t, label("all are sure", n), len(sure), n)
		same(t, label("all are sure", n), code, int64(impl.OK))
	}
}

// wordWith returns a word with just some holes.
func wordWith(t *testing.T, x impl.Mix, holes ...int64) string {
	t.Helper()
	for _, word := range manyWords(600) {
		if maskOfWords(x, word) == maskOf(holes...) {
			return word
		}
	}
	t.Fatalf("no word with %v in %v", holes, x)
	return ""
}

// A full vocabulary, all words of which may be in the mask, and one list of which alone explains it: the try at which it comes is reached with just this budget, up to MaxCover.
func TestPromise7FullVocabulary(t *testing.T) {
	x := impl.Mix{Start: 60, Size: 12, Per: 2}
	useless := wordWith(t, x, 60, 61) // each of the others has one of these holes
	needed := []string{wordWith(t, x, 60, 64), wordWith(t, x, 61, 65), wordWith(t, x, 62, 63)}
	tries := triesOf(rising(impl.MaxVocabulary), 3)
	for _, k := range []int64{42, 43, 80, 81, 820, 821, 822, 823, 1562, 1563, 1999, 2000, 2001, 2002, 9000, int64(len(tries))} {
		vocabulary := slices.Repeat([]string{useless}, impl.MaxVocabulary)
		list := tries[k-1]
		m := maskOf(0, 95)
		for i, at := range list {
			vocabulary[at] = needed[i]
			m = joined(m, maskOfWords(x, needed[i]))
		}
		maybe, code := impl.MaybeWords(x, m, vocabulary)
		same(t, label("all may be in the mask", k), maybe, rising(impl.MaxVocabulary))
		same(t, label("all may be in the mask", k), code, int64(impl.OK))
		sure, code := impl.SureWords(x, m, vocabulary)
		same(t, label("sure", k), sure, list)
		same(t, label("sure", k), code, int64(impl.OK))
		checkExplain(t, x, m, vocabulary, k, list)
	}
}

// rising returns the indices of n things.
func rising(n int64) []int64 {
	var list []int64
	for i := range n {
		list = append(list, i)
	}
	return list
}

func TestPromise7ByHand(t *testing.T) {
	x := impl.Mix{Start: 50, Size: 20, Per: 3} // ant 50 64 69, bee 53 58 59, fly 58 61 69, a 55 67 68, z 52 63 69, ab 55 66 67, ba 52 53 56, abcdefghijklmnop 52 53 59
	words := []string{"ant", "bee", "fly", "a", "z", "ab", "ba", longWord}
	outside := maskOf(0, 49, 70, 95)
	for _, c := range []struct {
		what               string
		vocabulary         []string
		m                  impl.Mask
		maybe, sure, words []int64
		code               int64
	}{
		{"nothing", words, impl.Mask{}, nil, nil, nil, impl.OK},
		{"nothing in the mix", words, outside, nil, nil, nil, impl.OK},
		{"nothing, and no words", nil, outside, nil, nil, nil, impl.OK},
		{"one word", words, maskOf(50, 64, 69), []int64{0}, []int64{0}, []int64{0}, impl.OK},
		{"one word, and holes outside", words, joined(outside, maskOf(50, 64, 69)), []int64{0}, []int64{0}, []int64{0}, impl.OK},
		{"one word without a hole", words, maskOf(50, 64), nil, nil, nil, impl.ErrNotFound},
		{"a hole alone", words, maskOf(69), nil, nil, nil, impl.ErrNotFound},
		{"a hole too many", words, maskOf(50, 51, 64, 69), []int64{0}, nil, nil, impl.ErrNotFound},
		{"all of the mix", words, partIn(x), []int64{0, 1, 2, 3, 4, 5, 6, 7}, nil, nil, impl.ErrNotFound},
		{"no words", nil, maskOf(50, 64, 69), nil, nil, nil, impl.ErrNotFound},
		{"two words, and one between them", words, maskOf(52, 53, 56, 58, 59), []int64{1, 6, 7}, []int64{1, 6}, []int64{1, 6}, impl.OK},
		{"two words, and none between them", words, maskOf(52, 53, 58, 59), []int64{1, 7}, []int64{1, 7}, []int64{1, 7}, impl.OK},
		{"a word that is told twice", []string{"ant", "bee", "ant", "bee"}, maskOf(50, 64, 69), []int64{0, 2}, nil, []int64{0}, impl.OK},
		{"two words that are told twice", []string{"bee", "ant", "bee", "ant", "fly"}, maskOf(50, 53, 58, 59, 64, 69), []int64{0, 1, 2, 3}, nil, []int64{0, 1}, impl.OK},
		{"two words, one told twice", []string{"bee", "ant", "bee"}, maskOf(50, 53, 58, 59, 64, 69), []int64{0, 1, 2}, []int64{1}, []int64{0, 1}, impl.OK},
	} {
		maybe, code := impl.MaybeWords(x, c.m, c.vocabulary)
		same(t, c.what, maybe, c.maybe)
		same(t, c.what, code, int64(impl.OK))
		sure, code := impl.SureWords(x, c.m, c.vocabulary)
		same(t, c.what, sure, c.sure)
		same(t, c.what, code, c.code)
		list, code := impl.ExplainMask(x, c.m, c.vocabulary, impl.MaxCover)
		same(t, c.what, list, c.words)
		same(t, c.what, code, c.code)
	}
}

// A budget of nothing allows no try, not even that of the empty list; and what is wrong beside it comes first.
func TestPromise7Budgets(t *testing.T) {
	x := impl.Mix{Start: 0, Size: 40, Per: 4}
	words := []string{"ant", "bee", "fly"}
	three, last := maskOfWords(x, words...), maskOfWords(x, "fly")
	for _, c := range []struct {
		m            impl.Mask
		budget, code int64
		words        []int64
	}{
		{impl.Mask{}, 0, impl.ErrBudget, nil},
		{impl.Mask{}, 1, impl.OK, nil},
		{impl.Mask{}, 2000, impl.OK, nil},
		{last, 0, impl.ErrBudget, nil},
		{last, 1, impl.ErrBudget, nil},
		{last, 2, impl.OK, []int64{2}}, // the empty list, and the one word that may be in the mask
		{three, 7, impl.ErrBudget, nil},
		{three, 8, impl.OK, []int64{0, 1, 2}}, // 1 + 3 + 3 + 1 tries
		{maskOf(1), 0, impl.ErrNotFound, nil},
		{maskOf(1), 2000, impl.ErrNotFound, nil},
	} {
		list, code := impl.ExplainMask(x, c.m, words, c.budget)
		same(t, label("ExplainMask", c.m, c.budget), list, c.words)
		same(t, label("ExplainMask", c.m, c.budget), code, c.code)
	}
	for _, budget := range wrongBudgets() {
		for _, m := range []impl.Mask{{}, three, maskOf(1)} {
			list, code := impl.ExplainMask(x, m, words, budget)
			same(t, label("ExplainMask", budget), list, []int64{})
			same(t, label("ExplainMask", budget), code, int64(impl.ErrRange))
		}
	}
}

// The pairs of words with the same holes, in a mix that has few sets of holes.
func TestPromise7AlikeWords(t *testing.T) {
	r := rand.New(rand.NewSource(81))
	lists := [][]string{nil, {}, {"ant"}, {"ant", "ant"}, {"ant", "bee", "ant", "bee", "ant"}, manyWords(impl.MaxVocabulary), slices.Repeat([]string{"ant"}, impl.MaxVocabulary)}
	for range 10 {
		var words []string
		for range r.Intn(impl.MaxVocabulary + 1) {
			words = append(words, randomWord(r))
		}
		lists = append(lists, words)
	}
	found := 0
	for _, x := range goodMixes() {
		for _, words := range lists {
			var want [][2]int64
			for i := range words {
				for k := i + 1; k < len(words); k++ {
					if maskOfWords(x, words[i]) == maskOfWords(x, words[k]) {
						want = append(want, [2]int64{int64(i), int64(k)})
						if words[i] != words[k] {
							found++
						}
					}
				}
			}
			pairs, code := impl.AlikeWords(x, words)
			same(t, label("AlikeWords", x, words), pairs, want)
			same(t, label("AlikeWords", x, words), code, int64(impl.OK))
		}
	}
	if found < 100 {
		t.Errorf("%d pairs of different words", found)
	}
	x := impl.Mix{Start: 92, Size: 4, Per: 2} // a and z 93 94, ab and bee 92 93, ant and fly 92 95, ba 94 95
	pairs, code := impl.AlikeWords(x, []string{"fly", "bee", "ba", "a", "ab", "ant", "bee", "z"})
	same(t, "by hand", pairs, [][2]int64{{0, 5}, {1, 4}, {1, 6}, {3, 7}, {4, 6}})
	same(t, "by hand", code, int64(impl.OK))
}

func TestFullestMasks(t *testing.T) {
	r := rand.New(rand.NewSource(82))
	for _, x := range goodMixes() {
		for n := range impl.MaxLot + 1 {
			masks := make([]impl.Mask, n)
			for i := range masks {
				masks[i] = joined(lessOf(randomMask(r), partIn(x)), maskOfWords(x, randomWords(r, 4)...))
			}
			want := []int64{0, 0, impl.ErrNotFound}
			for i, m := range masks {
				count := int64(len(holesIn(lessOf(m, lessOf(fullMask, partIn(x))))))
				if i == 0 || count > want[1] {
					want = []int64{int64(i), count, impl.OK}
				}
			}
			at, count, code := impl.FullestOf(x, masks)
			same(t, label("FullestOf", x, masks), []int64{at, count, code}, want)
		}
	}
	x := impl.Mix{Start: 10, Size: 60, Per: 2}
	for _, c := range []struct {
		masks []impl.Mask
		want  []int64
	}{
		{nil, []int64{0, 0, impl.ErrNotFound}},
		{[]impl.Mask{}, []int64{0, 0, impl.ErrNotFound}},
		{[]impl.Mask{{}}, []int64{0, 0, impl.OK}},
		{[]impl.Mask{{}, {}, lessOf(fullMask, partIn(x))}, []int64{0, 0, impl.OK}},
		{[]impl.Mask{maskOf(9, 70, 80, 90), maskOf(10), maskOf(69)}, []int64{1, 1, impl.OK}},
		{[]impl.Mask{maskOf(10, 11), fullMask, partIn(x)}, []int64{1, 60, impl.OK}},
	} {
		at, count, code := impl.FullestOf(x, c.masks)
		same(t, label("FullestOf", c.masks), []int64{at, count, code}, c.want)
	}
}
