package tests

import (
	"math/rand"
	"slices"

	"loop.example/g01261/impl"
)

// wornBy tells hole by hole what wear leaves of a mask.
func wornBy(m impl.Mask, w impl.Wear) impl.Mask {
	var left []int64
	for hole := range int64(96) {
		if isNotched(w.Torn, hole) || isNotched(m, hole) && !isNotched(w.Filled, hole) {
			left = append(left, hole)
		}
	}
	return maskOf(left...)
}

// codeMask tells the mask of the code of a value.
func codeMask(f impl.Field, value int64) impl.Mask { return maskOf(codeOf(f, value)...) }

// met tells what is in both masks.
func met(m, n impl.Mask) impl.Mask { return impl.Mask{m[0] & n[0], m[1] & n[1]} }

// apart tells in how many of the holes of a part two masks differ.
func apart(m, n, part impl.Mask) int64 {
	count := int64(0)
	for _, hole := range holesIn(part) {
		if isNotched(m, hole) != isNotched(n, hole) {
			count++
		}
	}
	return count
}

// codes are the codes of all values of a field, found once for each field.
type codes struct {
	masks  []impl.Mask
	values map[impl.Mask]int64
}

var knownCodes = map[impl.Field]codes{}

func codesFor(f impl.Field) codes {
	if known, has := knownCodes[f]; has {
		return known
	}
	all := codes{values: map[impl.Mask]int64{}}
	for value := range valuesOf(f.Kind, int64(f.Size)) {
		m := codeMask(f, value)
		all.masks = append(all.masks, m)
		all.values[m] = value
	}
	knownCodes[f] = all
	return all
}

// readIn tells the value in a field of a mask, and the code of DecodeField: found among the codes of all values.
func readIn(f impl.Field, m impl.Mask) (int64, int64) {
	kept := met(m, partMask(f))
	if kept == (impl.Mask{}) {
		return 0, impl.ErrNotFound
	}
	if value, known := codesFor(f).values[kept]; known {
		return value, impl.OK
	}
	return 0, impl.ErrProof
}

// nearIn tells all values with codes that differ from a mask in at most so many holes.
func nearIn(f impl.Field, m impl.Mask, far int64) []int64 {
	near := []int64{}
	part := partMask(f)
	for value, code := range codesFor(f).masks {
		if apart(m, code, part) <= far {
			near = append(near, int64(value))
		}
	}
	return near
}

// nearestIn tells all values with the codes that differ from a mask in the fewest holes, and how many these are.
func nearestIn(f impl.Field, m impl.Mask) ([]int64, int64) {
	for far := int64(0); ; far++ {
		if near := nearIn(f, m, far); len(near) > 0 {
			return near, far
		}
	}
}

// repairIn tells what becomes of a field of a mask, and how, or the code of what is wrong.
func repairIn(f impl.Field, m impl.Mask, copies []impl.Mask) (impl.Mask, int64, int64) {
	if _, code := readIn(f, m); code != impl.ErrProof {
		return m, 0, impl.OK
	}
	others := lessOf(m, partMask(f))
	var told []int64
	for _, c := range copies {
		if value, code := readIn(f, c); code == impl.OK {
			told = append(told, value)
		}
	}
	slices.Sort(told)
	for i := 0; i < len(told); {
		k := i
		for k < len(told) && told[k] == told[i] {
			k++
		}
		if k-i > len(told)-(k-i) {
			return joined(others, codeMask(f, told[i])), 1, impl.OK
		}
		i = k
	}
	if near := nearIn(f, m, 1); len(near) == 1 {
		return joined(others, codeMask(f, near[0])), 2, impl.OK
	}
	return impl.Mask{}, 0, impl.ErrState
}

// randomWear returns valid wear of some holes, few or many.
func randomWear(r *rand.Rand) impl.Wear {
	if r.Intn(2) == 0 {
		var w impl.Wear
		for range r.Intn(5) {
			m := maskOf(r.Int63n(96))
			if r.Intn(2) == 0 {
				w.Torn = joined(w.Torn, m)
			} else {
				w.Filled = joined(w.Filled, m)
			}
		}
		w.Filled = lessOf(w.Filled, w.Torn)
		return w
	}
	torn := met(randomMask(r), randomMask(r))
	return impl.Wear{Torn: torn, Filled: lessOf(met(randomMask(r), randomMask(r)), torn)}
}

// goodWears are valid.
func goodWears() []impl.Wear {
	list := []impl.Wear{
		{},
		{Torn: fullMask},
		{Filled: fullMask},
		{Torn: maskOf(3), Filled: maskOf(5)},
		{Torn: maskOf(0), Filled: maskOf(95)},
		{Torn: maskOf(64), Filled: maskOf(63)},
		{Torn: maskOf(0, 64), Filled: maskOf(32)},
		{Torn: impl.Mask{^uint64(0), 0}, Filled: impl.Mask{0, 0xffffffff}},
		{Torn: impl.Mask{0x5555555555555555, 0x55555555}, Filled: impl.Mask{0xaaaaaaaaaaaaaaaa, 0xaaaaaaaa}},
	}
	for hole := range int64(96) {
		list = append(list, impl.Wear{Torn: maskOf(hole)}, impl.Wear{Filled: maskOf(hole)})
	}
	return list
}

// wrongWears are almost valid.
func wrongWears() []impl.Wear {
	list := []impl.Wear{
		{Torn: fullMask, Filled: fullMask},
		{Torn: fullMask, Filled: maskOf(40)},
		{Torn: maskOf(95), Filled: fullMask},
		{Torn: maskOf(3, 5), Filled: maskOf(5, 7)},
		{Torn: maskOf(1, 70), Filled: maskOf(2, 70)},
	}
	for hole := range int64(96) {
		list = append(list, impl.Wear{Torn: maskOf(hole), Filled: maskOf(hole)})
	}
	for _, m := range invalidMasks() {
		list = append(list, impl.Wear{Torn: m}, impl.Wear{Filled: m}, impl.Wear{Torn: m, Filled: maskOf(1)}, impl.Wear{Torn: maskOf(1), Filled: m}, impl.Wear{Torn: m, Filled: m})
	}
	return list
}

// wrongChances are numbers that are not 0 to 1000.
func wrongChances() []int64 { return []int64{-1, -1000, 1001, 2000, 1 << 32, -1 << 63, 1<<63 - 1} }

// wrongFars are numbers that are not 0 to MaxFar.
func wrongFars() []int64 { return []int64{-1, -2, 3, 4, 96, 1 << 32, -1 << 63, 1<<63 - 1} }

// notchedCards makes valid cards, which may have the same name.
func notchedCards(masks ...impl.Mask) []impl.Card {
	cards := []impl.Card{}
	for _, m := range masks {
		cards = append(cards, impl.Card{Name: "copy", Notches: m})
	}
	return cards
}

// randomMasks returns n masks most of which are alike.
func randomMasks(r *rand.Rand, n int) []impl.Mask {
	base := randomMask(r)
	masks := make([]impl.Mask, n)
	for i := range masks {
		switch r.Intn(4) {
		case 0:
			masks[i] = randomMask(r)
		case 1:
			masks[i] = wornBy(base, randomWear(r))
		default:
			masks[i] = base
		}
	}
	return masks
}

// damagedMask returns a mask with a field that keeps a value, or almost, or nothing, or anything, among any other holes.
func damagedMask(r *rand.Rand, f impl.Field) impl.Mask {
	part := partMask(f)
	others := lessOf(randomMask(r), part)
	kept := codeMask(f, r.Int63n(valuesOf(f.Kind, int64(f.Size))))
	holes := holesIn(part)
	switch r.Intn(8) {
	case 0:
		kept = impl.Mask{}
	case 1:
		kept = met(randomMask(r), part)
	default:
		for range r.Intn(4) {
			one := maskOf(holes[r.Intn(len(holes))])
			if isIn(one, kept) {
				kept = lessOf(kept, one)
			} else {
				kept = joined(kept, one)
			}
		}
	}
	return joined(others, kept)
}

// damagedForms has one field of each kind and Size that has not too many values, at several places.
func damagedForms() []impl.Field {
	var list []impl.Field
	for _, f := range fieldsAtPlaces() {
		if valuesOf(f.Kind, int64(f.Size)) <= 256 {
			list = append(list, f)
		}
	}
	return append(list, impl.Field{Name: "s", Kind: impl.KdSum, Start: 55, Size: 4}, impl.Field{Name: "p", Kind: impl.KdPairs, Start: 76, Size: 4}, impl.Field{Name: "b", Kind: impl.KdBinary, Start: 60, Size: 12})
}
