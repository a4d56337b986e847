package tests

import (
	"math/big"
	"math/rand"
	"testing"

	"loop.example/g01261/impl"
)

// wearInOne are the three things that wear can do to one hole.
func wearInOne(hole int64) []impl.Wear {
	return []impl.Wear{{}, {Torn: maskOf(hole)}, {Filled: maskOf(hole)}}
}

func TestValidWears(t *testing.T) {
	for _, w := range goodWears() {
		same(t, label("ValidWear", w), impl.ValidWear(w), true)
	}
	for _, w := range wrongWears() {
		same(t, label("ValidWear", w), impl.ValidWear(w), false)
	}
	for bit := range int64(128) {
		m := maskOf(bit)
		same(t, label("torn", bit), impl.ValidWear(impl.Wear{Torn: m}), bit < 96)
		same(t, label("filled", bit), impl.ValidWear(impl.Wear{Filled: m}), bit < 96)
		same(t, label("both", bit), impl.ValidWear(impl.Wear{Torn: m, Filled: m}), false)
	}
}

// A hole that is notched or not, and is torn, filled or left: torn ones are notched behind it, filled ones are not, and all others stay.
func TestPromise8WearOfEachHole(t *testing.T) {
	for hole := range int64(96) {
		others := lessOf(fullMask, maskOf(hole))
		for _, beside := range []impl.Mask{{}, others} {
			for _, m := range []impl.Mask{beside, joined(beside, maskOf(hole))} {
				for i, w := range wearInOne(hole) {
					want := []impl.Mask{m, joined(beside, maskOf(hole)), beside}[i]
					c, code := impl.WearCard(impl.Card{Name: "ant", Notches: m}, w)
					same(t, label("WearCard", hole, w), []any{c, code}, []any{impl.Card{Name: "ant", Notches: want}, int64(impl.OK)})
				}
			}
		}
	}
}

func TestPromise8WearOfCards(t *testing.T) {
	r := rand.New(rand.NewSource(100))
	for _, w := range goodWears() {
		for _, m := range []impl.Mask{{}, fullMask, randomMask(r)} {
			c, code := impl.WearCard(impl.Card{Name: "abcdefghijklmnop", Notches: m}, w)
			same(t, label("WearCard", w), []any{c, code}, []any{impl.Card{Name: "abcdefghijklmnop", Notches: wornBy(m, w)}, int64(impl.OK)})
		}
		n, code := impl.CountWear(w)
		same(t, label("CountWear", w), []int64{n, code}, []int64{int64(len(holesIn(w.Torn)) + len(holesIn(w.Filled))), impl.OK})
		undo, code := impl.UndoWear(w)
		same(t, label("UndoWear", w), []any{undo, code}, []any{impl.Wear{Torn: w.Filled, Filled: w.Torn}, int64(impl.OK)})
	}
}

// Wear between two masks makes of the one the other one, with no hole more than in which they differ, and undone it makes of the other one the first one.
func TestPromise8WearBetweenMasks(t *testing.T) {
	r := rand.New(rand.NewSource(101))
	masks := []impl.Mask{{}, fullMask, maskOf(0), maskOf(95), maskOf(63), maskOf(64), maskOf(63, 64), maskOf(3, 5, 70)}
	for range 40 {
		masks = append(masks, randomMask(r))
	}
	for _, from := range masks {
		for _, to := range masks {
			w, code := impl.WearBetween(from, to)
			same(t, label("WearBetween", from, to), []any{w, code}, []any{impl.Wear{Torn: lessOf(to, from), Filled: lessOf(from, to)}, int64(impl.OK)})
			same(t, "ValidWear", impl.ValidWear(w), true)
			c, _ := impl.WearCard(impl.Card{Name: "ant", Notches: from}, w)
			same(t, label("what is made of", from), c.Notches, to)
			n, _ := impl.CountWear(w)
			same(t, label("CountWear", from, to), n, apart(from, to, fullMask))
			undo, _ := impl.UndoWear(w)
			back, _ := impl.WearCard(c, undo)
			same(t, label("what is made again of", to), back.Notches, from)
		}
		w, _ := impl.WearBetween(from, from)
		same(t, "wear between equal masks", w, impl.Wear{})
	}
}

// All that wear can do to a hole, behind all that wear can do to it.
func TestPromise8WearBehindWearOfOneHole(t *testing.T) {
	for hole := range int64(96) {
		list := wearInOne(hole)
		for i, v := range list {
			for k, w := range list {
				want := list[k]
				if k == 0 {
					want = list[i]
				}
				both, code := impl.AfterWear(v, w)
				same(t, label("AfterWear", v, w), []any{both, code}, []any{want, int64(impl.OK)})
			}
		}
	}
}

func TestPromise8WearBehindWear(t *testing.T) {
	r := rand.New(rand.NewSource(102))
	list := goodWears()[:9]
	for range 60 {
		list = append(list, randomWear(r))
	}
	for _, v := range list {
		for _, w := range list {
			both, code := impl.AfterWear(v, w)
			same(t, "AfterWear", []any{code, impl.ValidWear(both)}, []any{int64(impl.OK), true})
			for _, m := range []impl.Mask{{}, fullMask, randomMask(r)} {
				one, _ := impl.WearCard(impl.Card{Name: "ant", Notches: m}, v)
				two, _ := impl.WearCard(one, w)
				at, _ := impl.WearCard(impl.Card{Name: "ant", Notches: m}, both)
				same(t, label("wear behind wear", v, w), at, two)
			}
			// What is not worn by the one or the other is not worn by both.
			n := joined(joined(v.Torn, v.Filled), joined(w.Torn, w.Filled))
			same(t, label("holes", v, w), joined(both.Torn, both.Filled), n)
		}
	}
}

func TestExampleOfChapter4(t *testing.T) {
	w := impl.Wear{Torn: maskOf(3), Filled: maskOf(5)}
	c, code := impl.WearCard(impl.Card{Name: "ant", Notches: maskOf(5, 9)}, w)
	same(t, "WearCard", []any{c, code}, []any{impl.Card{Name: "ant", Notches: maskOf(3, 9)}, int64(impl.OK)})
	near, code := impl.ValuesNear(impl.Field{Name: "d", Kind: impl.KdDirect, Start: 7, Size: 3}, impl.Mask{}, 1)
	same(t, "ValuesNear", []any{near, code}, []any{[]int64{0, 1, 2}, int64(impl.OK)})
	m, code := impl.MajorityOf([]impl.Mask{maskOf(1, 2), maskOf(2, 3), maskOf(2)})
	same(t, "MajorityOf", []any{m, code}, []any{maskOf(2), int64(impl.OK)})
	for _, x := range [][2]int64{{impl.KdPairs, 2}, {impl.KdSum, 1}, {impl.KdDirect, 2}, {impl.KdBinary, 2}} {
		n, code := impl.LeastDistance(impl.Field{Name: "f", Kind: int8(x[0]), Start: 50, Size: 3})
		same(t, label("LeastDistance", x[0]), []int64{n, code}, []int64{x[1], impl.OK})
	}
}

// chanceIn tells the wear by chance, and the seed behind it, with numbers without end.
func chanceIn(m impl.Mask, seed uint32, torn, filled int64) (impl.Wear, uint32) {
	var w impl.Wear
	now := new(big.Int).SetUint64(uint64(seed))
	for hole := range int64(96) {
		now.Mul(now, big.NewInt(1664525))
		now.Add(now, big.NewInt(1013904223))
		now.Mod(now, big.NewInt(1<<32))
		r := new(big.Int).Div(now, big.NewInt(65536)).Int64() % 1000
		if isNotched(m, hole) && r < filled {
			w.Filled = joined(w.Filled, maskOf(hole))
		}
		if !isNotched(m, hole) && r < torn {
			w.Torn = joined(w.Torn, maskOf(hole))
		}
	}
	return w, uint32(now.Uint64())
}

// Wear by chance, with seeds whose products are greater than 2 to the power 32, too, and with what is never and always worn.
func TestPromise8WearByChance(t *testing.T) {
	r := rand.New(rand.NewSource(103))
	seeds := []uint32{0, 1, 2, 2580, 2581, 65535, 65536, 1 << 31, 1<<32 - 1, 3281032273}
	for range 20 {
		seeds = append(seeds, r.Uint32())
	}
	for _, seed := range seeds {
		for _, m := range []impl.Mask{{}, fullMask, randomMask(r)} {
			for _, torn := range []int64{0, 1, 333, 999, 1000} {
				for _, filled := range []int64{0, 1, 500, 999, 1000} {
					c, w, next, code := impl.ChanceWear(impl.Card{Name: "ant", Notches: m}, seed, torn, filled)
					want, last := chanceIn(m, seed, torn, filled)
					same(t, label("ChanceWear", m, seed, torn, filled), []any{c, w, next, code}, []any{impl.Card{Name: "ant", Notches: wornBy(m, want)}, want, last, int64(impl.OK)})
					between, _ := impl.WearBetween(m, c.Notches)
					same(t, "what is worn by chance", w, between)
				}
			}
		}
	}
}

// Nothing is worn with the chances 0, and everything with the chances 1000; the seed goes on in any case, and the same way.
func TestPromise8ChancesAtTheLimits(t *testing.T) {
	r := rand.New(rand.NewSource(104))
	for range 50 {
		seed, m := r.Uint32(), randomMask(r)
		c := impl.Card{Name: "ant", Notches: m}
		still, none, one, _ := impl.ChanceWear(c, seed, 0, 0)
		same(t, "nothing", []any{still, none}, []any{c, impl.Wear{}})
		all, w, two, _ := impl.ChanceWear(c, seed, 1000, 1000)
		same(t, "everything", []any{all.Notches, w}, []any{lessOf(fullMask, m), impl.Wear{Torn: lessOf(fullMask, m), Filled: m}})
		torn, w, three, _ := impl.ChanceWear(c, seed, 1000, 0)
		same(t, "all torn", []any{torn.Notches, w}, []any{fullMask, impl.Wear{Torn: lessOf(fullMask, m)}})
		filled, w, four, _ := impl.ChanceWear(c, seed, 0, 1000)
		same(t, "all filled", []any{filled.Notches, w}, []any{impl.Mask{}, impl.Wear{Filled: m}})
		same(t, "seeds", []uint32{two, three, four}, []uint32{one, one, one})
	}
}

// From the seed 0 the first number is 1013904223, of which 15470, and so 470, tells of the hole 0.
func TestPromise8ChanceOfTheFirstHole(t *testing.T) {
	for _, torn := range []int64{470, 471} {
		_, w, _, _ := impl.ChanceWear(impl.Card{Name: "ant"}, 0, torn, 0)
		same(t, label("torn", torn), isNotched(w.Torn, 0), torn == 471)
		_, w, _, _ = impl.ChanceWear(impl.Card{Name: "ant", Notches: fullMask}, 0, 0, torn)
		same(t, label("filled", torn), isNotched(w.Filled, 0), torn == 471)
	}
}
