package tests

import (
	"math/rand"
	"testing"

	"loop.example/g01261/impl"
)

// The chances of the document's example, and some that are found by hand.
func TestPromise13ChancesByHand(t *testing.T) {
	for _, x := range []struct {
		size, per, words, asked, want int64
	}{
		{10, 1, 1, 1, 100000000},
		{10, 1, 2, 1, 190000000},
		{10, 1, 1, 2, 10000000},
		{10, 1, 0, 1, 0}, {10, 1, 0, 12, 0}, {10, 1, 0, 0, 1000000000}, {10, 1, 100, 0, 1000000000},
		{4, 2, 1, 1, 250000000},
		{4, 2, 2, 1, 562500000},
		{4, 2, 100, 12, 1000000000}, // the chance of a hole without a notch is rounded down to nothing
		{7, 3, 1, 1, 78717201},      // 571428571 are not notched, and 428571429 are; multiplied: 183673469 and 78717201
		{7, 3, 2, 0, 1000000000},
		{9, 1, 1, 1, 111111112}, // 888888888 are not notched
		{9, 1, 2, 1, 209876544}, // 888888888 and then 790123456 are not notched
		{96, 8, 0, 1, 0},
	} {
		mix := impl.Mix{Size: int16(x.size), Per: int16(x.per)}
		chance, code := impl.FalseChance(mix, x.words, x.asked)
		same(t, label("FalseChance", x), []int64{chance, code}, []int64{x.want, impl.OK})
	}
	for _, x := range []struct {
		per, words, asked, most, chance, want int64
	}{
		{1, 1, 1, 96, 100000000, 10},
		{1, 1, 1, 10, 100000000, 10},
		{1, 1, 1, 9, 100000000, 0},
		{1, 1, 1, 96, 100000001, 10},
		{1, 1, 1, 96, 99999999, 11},
		{1, 1, 1, 4, 250000000, 4}, {1, 1, 1, 4, 249999999, 0},
		{1, 100, 12, 4, impl.Billion, 4}, {2, 100, 12, 96, impl.Billion, 4}, {3, 100, 12, 96, impl.Billion, 6}, {8, 100, 12, 96, impl.Billion, 16}, {8, 100, 12, 16, impl.Billion, 16}, {8, 100, 12, 15, impl.Billion, 0}, {3, 0, 1, 5, 0, 0}, {3, 0, 1, 6, 0, 6},
		{1, 0, 1, 4, 0, 4}, {1, 0, 0, 96, impl.Billion - 1, 0}, {1, 0, 0, 96, impl.Billion, 4}, {1, 1, 1, 96, 0, 0},
	} {
		size, code := impl.BestSize(x.per, x.words, x.asked, x.most, x.chance)
		want := int64(impl.OK)
		if x.want == 0 {
			want = impl.ErrNotFound
		}
		same(t, label("BestSize", x), []int64{size, code}, []int64{x.want, want})
	}
}

func TestPromise13Chances(t *testing.T) {
	for _, x := range goodMixes() {
		for _, words := range []int64{0, 1, 2, 3, 12, 50, 99, 100} {
			for asked := range int64(13) {
				chance, code := impl.FalseChance(x, words, asked)
				sameOf(t, []int64{chance, code}, []int64{falseChanceIn(int64(x.Size), int64(x.Per), words, asked), impl.OK}, "FalseChance", x, words, asked)
			}
		}
	}
	for size := int64(4); size <= 96; size++ {
		for per := int64(1); per <= min(8, size/2); per++ {
			chance, code := impl.FalseChance(impl.Mix{Start: int16(96 - size), Size: int16(size), Per: int16(per)}, size%7, 1+size%4)
			sameOf(t, []int64{chance, code}, []int64{falseChanceIn(size, per, size%7, 1+size%4), impl.OK}, "FalseChance", size, per)
		}
	}
}

// The chances of all lists are added up, each with as many words as it has, also if one of them is told twice.
func TestPromise13ExpectedFalseDrops(t *testing.T) {
	r := rand.New(rand.NewSource(205))
	lots := [][][]string{nil, {}, {nil}, {{}}, {{"ant"}, {"ant", "bee"}}, {{"ant", "ant"}}, {{}, {"ant"}, {}}, randomLot(r, impl.MaxLot, impl.MaxWords), randomLot(r, 20, 5), make([][]string, impl.MaxLot)}
	full := make([][]string, impl.MaxLot)
	for i := range full {
		full[i] = manyWords(impl.MaxWords)
	}
	for _, lot := range append(lots, full) {
		for _, x := range goodMixes() {
			for _, asked := range []int64{0, 1, 2, 11, 12} {
				want := int64(0)
				for _, list := range lot {
					want += falseChanceIn(int64(x.Size), int64(x.Per), int64(len(list)), asked)
				}
				sum, code := impl.ExpectedFalse(x, lot, asked)
				sameOf(t, []int64{sum, code}, []int64{want, impl.OK}, "ExpectedFalse", x, asked)
			}
		}
	}
	sum, code := impl.ExpectedFalse(impl.Mix{Size: 10, Per: 1}, [][]string{{"ant"}, {}, {"ant", "bee"}, {"ant", "ant"}}, 1)
	same(t, "ExpectedFalse", []int64{sum, code}, []int64{480000000, impl.OK})
	sum, code = impl.ExpectedFalse(impl.Mix{Size: 10, Per: 1}, full, 0)
	same(t, "ExpectedFalse", []int64{sum, code}, []int64{60000000000, impl.OK})
}

// bestSizeIn tries all sizes, the greatest one first.
func bestSizeIn(per, words, asked, most, chance int64) (int64, int64) {
	best, code := int64(0), int64(impl.ErrNotFound)
	for size := most; size >= 4 && size >= 2*per; size-- {
		if falseChanceIn(size, per, words, asked) <= chance {
			best, code = size, impl.OK
		}
	}
	return best, code
}

func TestPromise13BestSizes(t *testing.T) {
	for per := int64(1); per <= 8; per++ {
		for _, words := range []int64{0, 1, 3, 20, 100} {
			for _, asked := range []int64{0, 1, 2, 12} {
				checkSizes(t, per, words, asked)
			}
		}
	}
}

// checkSizes looks for sizes with chances that some size has just, or almost.
func checkSizes(t *testing.T, per, words, asked int64) {
	t.Helper()
	for _, most := range []int64{4, 5, 15, 16, 17, 40, 95, 96} {
		chances := []int64{0, 1, impl.Billion - 1, impl.Billion}
		for _, size := range []int64{16, 33, most} {
			if chance := falseChanceIn(size, per, words, asked); size >= 2*per && chance > 0 {
				chances = append(chances, chance, chance-1)
			}
		}
		for _, chance := range chances {
			size, code := impl.BestSize(per, words, asked, most, chance)
			best, want := bestSizeIn(per, words, asked, most, chance)
			sameOf(t, []int64{size, code}, []int64{best, want}, "BestSize", per, words, asked, most, chance)
			if code == impl.OK {
				found, code := impl.FalseChance(impl.Mix{Size: int16(size), Per: int16(per)}, words, asked)
				sameOf(t, []any{found <= chance, code}, []any{true, int64(impl.OK)}, "FalseChance", size, per, words, asked)
			}
		}
	}
}
