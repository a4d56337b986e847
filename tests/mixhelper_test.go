package tests

import (
	"math/big"
	"math/rand"
	"slices"
	"strings"

	"loop.example/g01261/impl"
)

// longWord has MaxWord letters, and tooLong one more.
const (
	longWord = "abcdefghijklmnop"
	tooLong  = "abcdefghijklmnopq"
)

// checkIn tells the check of a word: its digits in the base 16777619, with a 1 in front, as a number without end, and what is left of it modulo 2 to the power 32.
func checkIn(word string) int64 {
	check := big.NewInt(1)
	for i := range len(word) {
		check.Mul(check, big.NewInt(16777619))
		check.Add(check, big.NewInt(int64(word[i])))
	}
	return check.Mod(check, big.NewInt(1<<32)).Int64()
}

// holesOfWord tells the holes of a word as a list, in the order in which they are found.
func holesOfWord(x impl.Mix, word string) []int64 {
	var holes []int64
	for a := checkIn(word); len(holes) < int(x.Per); {
		a = (1664525*a + 1013904223) % (1 << 32)
		hole := int64(x.Start) + a/65536%int64(x.Size)
		if !slices.Contains(holes, hole) {
			holes = append(holes, hole)
		}
	}
	return holes
}

// maskOfWords tells the holes of several words.
func maskOfWords(x impl.Mix, words ...string) impl.Mask {
	var holes []int64
	for _, word := range words {
		holes = append(holes, holesOfWord(x, word)...)
	}
	return maskOf(holes...)
}

// masksIn tells the masks of a lot.
func masksIn(x impl.Mix, lot [][]string) []impl.Mask {
	var masks []impl.Mask
	for _, words := range lot {
		masks = append(masks, maskOfWords(x, words...))
	}
	return masks
}

// partIn tells the holes of a mix.
func partIn(x impl.Mix) impl.Mask {
	var holes []int64
	for i := range int64(x.Size) {
		holes = append(holes, int64(x.Start)+i)
	}
	return maskOf(holes...)
}

// joined tells what is in one of two masks.
func joined(m, n impl.Mask) impl.Mask { return impl.Mask{m[0] | n[0], m[1] | n[1]} }

// isIn tells hole by hole whether all of m is in n.
func isIn(m, n impl.Mask) bool { return less(holesIn(m), holesIn(n)) }

// dropIn tells whether the mask of words is in a mask, word by word.
func dropIn(x impl.Mix, m impl.Mask, words []string) bool {
	for _, word := range words {
		if !isIn(maskOfWords(x, word), m) {
			return false
		}
	}
	return true
}

// hasWords tells whether a list has all of some words.
func hasWords(list, words []string) bool {
	for _, word := range words {
		if !slices.Contains(list, word) {
			return false
		}
	}
	return true
}

// falseIn tells which lists of a lot drop for words without having them.
func falseIn(x impl.Mix, lot [][]string, words []string) []int64 {
	found := []int64{}
	for i, list := range lot {
		if dropIn(x, maskOfWords(x, list...), words) && !hasWords(list, words) {
			found = append(found, int64(i))
		}
	}
	return found
}

// countIn counts all pairs of a different word of a lot and a list that drops for it, and has it not.
func countIn(x impl.Mix, lot [][]string) int64 {
	words := slices.Concat(lot...)
	slices.Sort(words)
	count := 0
	for _, word := range slices.Compact(words) {
		count += len(falseIn(x, lot, []string{word}))
	}
	return int64(count)
}

// goodMixes are valid, from the least to the greatest Size, Start and Per.
func goodMixes() []impl.Mix {
	return []impl.Mix{
		{Start: 0, Size: 4, Per: 1}, {Start: 0, Size: 4, Per: 2}, {Start: 92, Size: 4, Per: 2}, {Start: 62, Size: 4, Per: 2},
		{Start: 0, Size: 5, Per: 2}, {Start: 7, Size: 7, Per: 3}, {Start: 3, Size: 6, Per: 3}, {Start: 60, Size: 9, Per: 4},
		{Start: 0, Size: 15, Per: 7}, {Start: 80, Size: 16, Per: 8}, {Start: 1, Size: 17, Per: 8}, {Start: 50, Size: 20, Per: 3},
		{Start: 0, Size: 40, Per: 4}, {Start: 20, Size: 60, Per: 6}, {Start: 0, Size: 63, Per: 5}, {Start: 0, Size: 64, Per: 5},
		{Start: 64, Size: 32, Per: 2}, {Start: 0, Size: 65, Per: 5}, {Start: 1, Size: 95, Per: 1}, {Start: 0, Size: 95, Per: 8},
		{Start: 0, Size: 96, Per: 1}, {Start: 0, Size: 96, Per: 8},
	}
}

// wrongMixes are mixes that are almost valid.
func wrongMixes() []impl.Mix {
	return []impl.Mix{
		{}, {Size: 4}, {Per: 1}, {Start: 5, Per: 2},
		{Size: 3, Per: 1}, {Size: 2, Per: 1}, {Size: 1, Per: 1}, {Size: -4, Per: 1}, {Size: -40, Per: -4}, {Size: -32768, Per: 1}, {Size: -32768, Per: -16384},
		{Size: 40, Per: 0}, {Size: 40, Per: -1}, {Size: 40, Per: 9}, {Size: 96, Per: 9}, {Size: 40, Per: 20}, {Size: 40, Per: 32767}, {Size: 40, Per: -32768},
		{Size: 4, Per: 3}, {Size: 5, Per: 3}, {Size: 6, Per: 4}, {Size: 7, Per: 4}, {Size: 14, Per: 8}, {Size: 15, Per: 8}, {Size: 4, Per: 4},
		{Size: 97, Per: 1}, {Size: 128, Per: 1}, {Size: 32767, Per: 1}, {Start: 1, Size: 96, Per: 1}, {Start: 93, Size: 4, Per: 1}, {Start: 96, Size: 4, Per: 1}, {Start: 57, Size: 40, Per: 4},
		{Start: -1, Size: 40, Per: 4}, {Start: -4, Size: 4, Per: 1}, {Start: -32768, Size: 40, Per: 4}, {Start: 32767, Size: 4, Per: 1}, {Start: 32767, Size: 32767, Per: 1}, {Start: 20000, Size: 20000, Per: 8},
	}
}

// wrongWords are texts that are no words.
func wrongWords() []string { return append(wrongNames(), tooLong) }

// manyWords returns n different words.
func manyWords(n int) []string {
	words := []string{}
	for i := range n {
		words = append(words, nameOf(i))
	}
	return words
}

// randomWord returns one of a few hundred words.
func randomWord(r *rand.Rand) string {
	return strings.Repeat(string(rune('a'+r.Intn(26))), 1+r.Intn(3)) + string(rune('a'+r.Intn(8)))
}

// randomWords returns at most `most` words, some of which may be told several times.
func randomWords(r *rand.Rand, most int) []string {
	words := []string{}
	for range r.Intn(most + 1) {
		words = append(words, randomWord(r))
	}
	if len(words) > 2 && r.Intn(3) == 0 {
		words[len(words)-1] = words[0]
	}
	return words
}

// randomLot returns a lot of n lists.
func randomLot(r *rand.Rand, n, most int) [][]string {
	lot := [][]string{}
	for range n {
		lot = append(lot, randomWords(r, most))
	}
	return lot
}

// wrongLists are lists of words that are almost those that a function takes which takes at most `most`.
func wrongLists(most int) [][]string {
	repeated := make([]string, most+1)
	for i := range repeated {
		repeated[i] = "ant"
	}
	list := [][]string{manyWords(most + 1), manyWords(most + 500), repeated, make([]string, most+1), append(manyWords(most), "")}
	for _, word := range wrongWords() {
		list = append(list, []string{word}, []string{"ant", word}, []string{word, "ant"})
	}
	return list
}

// wrongLots are lots that are almost right.
func wrongLots() [][][]string {
	full := make([][]string, impl.MaxLot)
	for i := range full {
		full[i] = manyWords(impl.MaxWords)
	}
	list := [][][]string{make([][]string, impl.MaxLot+1), append(slices.Clone(full), nil), append(slices.Clone(full), []string{"ant"}), make([][]string, 5000)}
	for _, words := range wrongLists(impl.MaxWords) {
		list = append(list, [][]string{words}, [][]string{{"ant"}, {}, words}, [][]string{words, {"ant"}}, append(slices.Clone(full[1:]), words))
	}
	return list
}

// wrongBudgets are budgets that ExplainMask refuses.
func wrongBudgets() []int64 { return []int64{-1, -2, 2001, 2002, 1 << 40, -1 << 63, 1<<63 - 1} }
