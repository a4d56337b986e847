package tests

import (
	"math/rand"
	"slices"
	"strings"
	"testing"

	"loop.example/g01261/impl"
)

// Checks and holes that have been worked out outside of the package and of these tests.
func TestPromise6WordsByHand(t *testing.T) {
	mixes := []impl.Mix{{Start: 0, Size: 40, Per: 4}, {Start: 0, Size: 96, Per: 8}, {Start: 92, Size: 4, Per: 2}, {Start: 50, Size: 20, Per: 3}, {Start: 0, Size: 4, Per: 1}}
	for _, x := range []struct {
		word  string
		check uint32
		holes [5][]int64
	}{
		{"a", 16777716, [5][]int64{{5, 17, 18, 20}, {10, 13, 27, 33, 37, 44, 81, 85}, {93, 94}, {55, 67, 68}, {2}}},
		{"z", 16777741, [5][]int64{{9, 13, 22, 39}, {6, 23, 30, 35, 37, 46, 69, 89}, {93, 94}, {52, 63, 69}, {1}}},
		{"ab", 2265125758, [5][]int64{{12, 16, 17, 25}, {9, 17, 31, 41, 62, 72, 76, 92}, {92, 93}, {55, 66, 67}, {1}}},
		{"ba", 2281903376, [5][]int64{{2, 3, 9, 26}, {1, 10, 11, 18, 41, 42, 47, 90}, {94, 95}, {52, 53, 56}, {3}}},
		{"ant", 332907186, [5][]int64{{0, 14, 37, 39}, {30, 39, 62, 75, 77, 88, 94, 95}, {92, 95}, {50, 64, 69}, {0}}},
		{"bee", 819605217, [5][]int64{{3, 8, 9, 34}, {8, 9, 34, 41, 51, 75, 90, 92}, {92, 93}, {53, 58, 59}, {1}}},
		{"fly", 3487835038, [5][]int64{{8, 11, 19, 31}, {2, 3, 9, 35, 69, 71, 72, 79}, {92, 95}, {58, 61, 69}, {3}}},
		{longWord, 3373946409, [5][]int64{{2, 9, 23, 28}, {1, 2, 4, 44, 47, 78, 79, 90}, {93, 94}, {52, 53, 59}, {2}}},
		{"zzzzzzzzzzzzzzzz", 3567591809, [5][]int64{{5, 9, 29, 36}, {1, 11, 21, 36, 38, 53, 68, 89}, {92, 93}, {55, 59, 66}, {0}}},
	} {
		check, code := impl.WordCheck(x.word)
		same(t, label("WordCheck", x.word), []any{check, code}, []any{x.check, int64(impl.OK)})
		for i, mix := range mixes {
			m, code := impl.WordHoles(mix, x.word)
			same(t, label("WordHoles", mix, x.word), []any{holesIn(m), code}, []any{x.holes[i], int64(impl.OK)})
		}
	}
}

// Each word has Per holes of the mix, which follow from its check.
func TestPromise6HolesOfWords(t *testing.T) {
	r := rand.New(rand.NewSource(70))
	words := []string{"a", "b", "z", longWord, strings.Repeat("z", impl.MaxWord), strings.Repeat("a", impl.MaxWord)}
	for range 60 {
		words = append(words, randomWord(r))
	}
	for _, word := range words {
		check, code := impl.WordCheck(word)
		same(t, label("WordCheck", word), []int64{int64(check), code}, []int64{checkIn(word), impl.OK})
		for _, x := range goodMixes() {
			m, code := impl.WordHoles(x, word)
			same(t, label("WordHoles", x, word), []any{m, code}, []any{maskOfWords(x, word), int64(impl.OK)})
			if len(holesIn(m)) != int(x.Per) || !isIn(m, partIn(x)) {
				t.Errorf("%v: %q has the holes %v", x, word, holesIn(m))
			}
		}
	}
}

func TestPromise6AddedWords(t *testing.T) {
	r := rand.New(rand.NewSource(71))
	lists := [][]string{nil, {}, {"ant"}, {"ant", "ant", "ant"}, {"ant", "bee", "ant"}, manyWords(impl.MaxWords), {longWord, "a"}}
	for range 20 {
		lists = append(lists, randomWords(r, impl.MaxWords))
	}
	for _, x := range goodMixes() {
		for _, words := range lists {
			for _, m := range []impl.Mask{{}, fullMask, maskOf(0, 63, 64, 95), lessOf(fullMask, partIn(x)), randomMask(r)} {
				got, code := impl.AddWords(x, m, words)
				same(t, label("AddWords", x, m, words), []any{got, code}, []any{joined(m, maskOfWords(x, words...)), int64(impl.OK)})
			}
			n, code := impl.NeedlesFor(x, words)
			same(t, label("NeedlesFor", x, words), []int64{n, code}, []int64{int64(len(holesIn(maskOfWords(x, words...)))), impl.OK})
		}
		masks, code := impl.MixLot(x, lists)
		same(t, label("MixLot", x), masks, masksIn(x, lists))
		same(t, label("MixLot", x), code, int64(impl.OK))
		for _, lot := range [][][]string{nil, {}} {
			masks, code = impl.MixLot(x, lot)
			same(t, label("the empty lot", x), masks, []impl.Mask{})
			same(t, label("the empty lot", x), code, int64(impl.OK))
		}
	}
}

// What drops: masks with all holes of all words, whatever is notched outside of the mix.
func TestPromise6WhatDropsForWords(t *testing.T) {
	r := rand.New(rand.NewSource(72))
	yes, no := 0, 0
	for _, x := range goodMixes() {
		masks := []impl.Mask{{}, fullMask, partIn(x), lessOf(fullMask, partIn(x))}
		for len(masks) < impl.MaxLot {
			m := maskOfWords(x, randomWords(r, impl.MaxWords)...)
			if r.Intn(2) == 0 {
				m = joined(m, lessOf(randomMask(r), partIn(x)))
			}
			masks = append(masks, m)
		}
		for _, words := range [][]string{nil, {"ant"}, {"ant", "ant"}, randomWords(r, 1), randomWords(r, 2), randomWords(r, 5), manyWords(impl.MaxWords)} {
			var want []int64
			for i, m := range masks {
				drops, code := impl.Drops(x, m, words)
				same(t, label("Drops", x, m, words), []any{drops, code}, []any{dropIn(x, m, words), int64(impl.OK)})
				if drops {
					want = append(want, int64(i))
					yes++
				} else {
					no++
				}
			}
			got, code := impl.DroppedOf(x, masks, words)
			same(t, label("DroppedOf", x, words), got, want)
			same(t, label("DroppedOf", x, words), code, int64(impl.OK))
			got, code = impl.DroppedOf(x, nil, words)
			same(t, label("DroppedOf nothing", x, words), got, []int64{})
			same(t, label("DroppedOf nothing", x, words), code, int64(impl.OK))
		}
	}
	if yes < 500 || no < 500 {
		t.Errorf("%d masks drop, and %d do not", yes, no)
	}
}

// One hole of a word that is not notched keeps a mask from dropping; those of no word say nothing.
func TestPromise6EachHoleOfWords(t *testing.T) {
	for _, x := range goodMixes() {
		words := []string{"ant", "bee"}
		needed := maskOfWords(x, words...)
		for hole := range int64(impl.Holes) {
			without := lessOf(fullMask, maskOf(hole))
			drops, code := impl.Drops(x, without, words)
			same(t, label("without", x, hole), []any{drops, code}, []any{!isNotched(needed, hole), int64(impl.OK)})
			drops, code = impl.Drops(x, lessOf(needed, maskOf(hole)), words)
			same(t, label("words without", x, hole), []any{drops, code}, []any{!isNotched(needed, hole), int64(impl.OK)})
		}
	}
}

// All lists that have the words drop; what drops beside them is false; and more words never drop more cards.
func TestPromise6TrueAndFalse(t *testing.T) {
	r := rand.New(rand.NewSource(73))
	wrong := 0
	for _, x := range goodMixes() {
		for range 12 {
			lot := randomLot(r, r.Intn(impl.MaxLot+1), impl.MaxWords)
			masks, _ := impl.MixLot(x, lot)
			words := randomWords(r, 3)
			if len(lot) > 0 && r.Intn(2) == 0 {
				words = lot[0][:min(len(lot[0]), 3)]
			}
			dropped, _ := impl.DroppedOf(x, masks, words)
			own, code := impl.TrueOf(lot, words)
			want := []int64{}
			for i, list := range lot {
				if hasWords(list, words) {
					want = append(want, int64(i))
				}
			}
			same(t, label("TrueOf", lot, words), own, want)
			same(t, label("TrueOf", lot, words), code, int64(impl.OK))
			found, code := impl.FalseOf(x, lot, words)
			same(t, label("FalseOf", x, lot, words), found, falseIn(x, lot, words))
			same(t, label("FalseOf", x, lot, words), code, int64(impl.OK))
			wrong += len(found)
			both := append(slices.Clone(own), found...)
			slices.Sort(both)
			same(t, label("what drops", x, lot, words), dropped, both)
			more, _ := impl.DroppedOf(x, masks, append(slices.Clone(words), randomWord(r)))
			if !less(more, dropped) {
				t.Errorf("%v: %v drop for %v, and %v with a further word", x, dropped, words, more)
			}
		}
	}
	if wrong < 500 {
		t.Errorf("%d false drops", wrong)
	}
}

func TestPromise6TrueAndFalseByHand(t *testing.T) {
	x := impl.Mix{Start: 0, Size: 4, Per: 1} // a 2, z 1, ab 1, ba 3, ant 0, bee 1, fly 3
	lot := [][]string{{"z", "ant"}, {}, {"bee", "fly"}, {"bee", "z", "bee"}, {"a"}, {"ab", "ba", "fly", "a"}}
	for _, c := range []struct {
		words     []string
		own, fake []int64
	}{
		{nil, []int64{0, 1, 2, 3, 4, 5}, nil},
		{[]string{"z"}, []int64{0, 3}, []int64{2, 5}},
		{[]string{"z", "z"}, []int64{0, 3}, []int64{2, 5}},
		{[]string{"bee", "z"}, []int64{3}, []int64{0, 2, 5}},
		{[]string{"ab", "z"}, nil, []int64{0, 2, 3, 5}},
		{[]string{"fly"}, []int64{2, 5}, nil},
		{[]string{"ba"}, []int64{5}, []int64{2}},
		{[]string{"fly", "bee"}, []int64{2}, []int64{5}},
		{[]string{"a", "fly"}, []int64{5}, nil},
		{[]string{"ant", "a"}, nil, nil},
		{[]string{"zzzzzzzzzzzzzzzz"}, nil, []int64{0}},
	} {
		own, code := impl.TrueOf(lot, c.words)
		same(t, label("TrueOf", c.words), own, c.own)
		same(t, label("TrueOf", c.words), code, int64(impl.OK))
		fake, code := impl.FalseOf(x, lot, c.words)
		same(t, label("FalseOf", c.words), fake, c.fake)
		same(t, label("FalseOf", c.words), code, int64(impl.OK))
	}
	// Of the words z has two false drops, bee 0 and 5, ab 0, 2 and 3, ba the one of fly, and ant, fly and a have none.
	count, code := impl.CountFalse(x, lot)
	same(t, "CountFalse", []int64{count, code}, []int64{2 + 2 + 3 + 1, impl.OK})
}

// CountFalse asks for each different word of a lot once.
func TestPromise6CountedFalseDrops(t *testing.T) {
	r := rand.New(rand.NewSource(74))
	for _, x := range goodMixes() {
		for _, lot := range [][][]string{nil, {{}}, {nil, nil}, {{"ant", "bee", "fly"}}, {{"ant", "ant"}, {"ant"}}, randomLot(r, 1, impl.MaxWords), randomLot(r, 2, 3), randomLot(r, 7, 2), randomLot(r, 20, 5), randomLot(r, impl.MaxLot, impl.MaxWords)} {
			count, code := impl.CountFalse(x, lot)
			same(t, label("CountFalse", x, lot), []int64{count, code}, []int64{countIn(x, lot), impl.OK})
			if len(lot) < 2 && count != 0 {
				t.Errorf("%v: %d false drops in %v", x, count, lot)
			}
		}
	}
	full := make([][]string, impl.MaxLot)
	for i := range full {
		full[i] = manyWords(impl.MaxWords * impl.MaxLot)[i*impl.MaxWords : (i+1)*impl.MaxWords]
	}
	for _, x := range []impl.Mix{{Size: 4, Per: 2}, {Size: 96, Per: 8}} {
		count, code := impl.CountFalse(x, full)
		same(t, label("CountFalse", x), []int64{count, code}, []int64{countIn(x, full), impl.OK})
	}
}

// BestPer goes through all Pers of the Size, whichever the mix has, and takes the least one of several.
func TestPromise6BestPer(t *testing.T) {
	r := rand.New(rand.NewSource(75))
	seen := map[int64]int{}
	for _, x := range goodMixes() {
		for _, lot := range [][][]string{nil, {{"ant", "bee"}}, {{"a"}, {"a"}}, randomLot(r, 3, 3), randomLot(r, 9, 2), randomLot(r, 12, 4), randomLot(r, 25, 5), randomLot(r, 30, 12)} {
			best, fewest := int64(0), int64(-1)
			for per := int16(1); per <= 8 && 2*per <= x.Size; per++ {
				count := countIn(impl.Mix{Start: x.Start, Size: x.Size, Per: per}, lot)
				if fewest < 0 || count < fewest {
					best, fewest = int64(per), count
				}
			}
			per, count, code := impl.BestPer(x, lot)
			same(t, label("BestPer", x, lot), []int64{per, count, code}, []int64{best, fewest, impl.OK})
			seen[per]++
		}
	}
	if seen[1] == 0 || seen[2] == 0 || seen[3] == 0 || len(seen) < 5 {
		t.Errorf("the best Pers: %v", seen)
	}
}

// The best Per may be the greatest one that there is, for a Size that limits it and for one that does not.
func TestPromise6BestPerIsTheGreatest(t *testing.T) {
	r := rand.New(rand.NewSource(76))
	for _, x := range []impl.Mix{{Size: 6, Per: 1}, {Size: 7, Per: 1}, {Size: 96, Per: 1}} {
		most := min(int64(impl.MaxPer), int64(x.Size/2))
		found := false
		for range 20000 {
			lot := randomLot(r, 8, 1)
			if x.Size == 96 { // with so many holes false drops are rare, but for words over each other
				lot = randomLot(r, impl.MaxLot, 5)
			}
			per, count, _ := impl.BestPer(x, lot)
			if per == most {
				found = true
				same(t, label("the fewest", x, lot), count, countIn(impl.Mix{Start: x.Start, Size: x.Size, Per: int16(per)}, lot))
				if countIn(impl.Mix{Start: x.Start, Size: x.Size, Per: int16(per - 1)}, lot) <= count {
					t.Errorf("%v: a Per of %d is not better in %v", x, per, lot)
				}
				break
			}
		}
		if !found {
			t.Errorf("%v: %d has never been the best Per", x, most)
		}
	}
}
