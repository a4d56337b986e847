package tests

import (
	"fmt"
	"math/rand"
	"reflect"
	"sort"
	"strconv"
	"strings"
	"testing"

	"loop.example/g01261/impl"
)

// same fails the test if two values are not deeply equal; nil and empty slices count as equal.
func same(t *testing.T, what string, got, want any) {
	t.Helper()
	if reflect.DeepEqual(got, want) {
		return
	}
	g, w := reflect.ValueOf(got), reflect.ValueOf(want)
	if g.IsValid() && w.IsValid() && g.Kind() == reflect.Slice && w.Kind() == reflect.Slice && g.Len() == 0 && w.Len() == 0 {
		return
	}
	t.Errorf("%s: got %v, want %v", what, got, want)
}

// maskOf makes a mask without the help of the package.
func maskOf(holes ...int64) impl.Mask {
	var m impl.Mask
	for _, hole := range holes {
		m[hole/64] |= 1 << (hole % 64)
	}
	return m
}

// holesIn tells the holes of a mask without the help of the package.
func holesIn(m impl.Mask) []int64 {
	var holes []int64
	for hole := range int64(128) {
		if m[hole/64]&(1<<(hole%64)) != 0 {
			holes = append(holes, hole)
		}
	}
	return holes
}

// randomMask returns a valid mask.
func randomMask(r *rand.Rand) impl.Mask {
	return impl.Mask{r.Uint64(), r.Uint64() & 0xffffffff}
}

// invalidMasks have bits that belong to no hole.
func invalidMasks() []impl.Mask {
	return []impl.Mask{maskOf(96), maskOf(127), maskOf(3, 100), {0, 1 << 32}, {^uint64(0), ^uint64(0)}}
}

// noHoles are numbers of no hole.
func noHoles() []int64 {
	return []int64{-1, 96, 97, 127, 128, 1 << 40, -1 << 63, 1<<63 - 1}
}

// sizesOf is the greatest Size of each kind, and widthOf tells how many holes a Size takes.
var sizesOf = map[int8]int64{impl.KdDirect: 24, impl.KdSum: 4, impl.KdPairs: 4, impl.KdBinary: 12}

func widthOf(kind int8, size int64) int64 {
	switch kind {
	case impl.KdSum:
		return 4 * size
	case impl.KdPairs:
		return 5 * size
	case impl.KdBinary:
		return size + 1
	}
	return size
}

// valuesOf tells how many values a field has.
func valuesOf(kind int8, size int64) int64 {
	switch kind {
	case impl.KdSum, impl.KdPairs:
		return []int64{1, 10, 100, 1000, 10000}[size]
	case impl.KdBinary:
		return 1 << size
	}
	return size
}

// allForms has a field of each kind and Size, from the hole 0 on.
func allForms() []impl.Field {
	var list []impl.Field
	for kind := range int8(4) {
		for size := int64(1); size <= sizesOf[kind]; size++ {
			list = append(list, impl.Field{Name: "f", Kind: kind, Size: int16(size)})
		}
	}
	return list
}

// startsFor returns where a field may lie: at both ends, and over the border between the two numbers of a mask.
func startsFor(f impl.Field) []int16 {
	width := int16(widthOf(f.Kind, int64(f.Size)))
	starts := []int16{0, 10, 64, 96 - width}
	for start := 64 - width; start < 64; start++ {
		starts = append(starts, start)
	}
	return starts
}

// codeOf tells the holes that are notched for a value, found in another way than in the package: from the text of the value.
func codeOf(f impl.Field, value int64) []int64 {
	start, size := int64(f.Start), int(f.Size)
	var holes []int64
	switch f.Kind {
	case impl.KdDirect:
		holes = append(holes, start+value)
	case impl.KdBinary:
		text := padded(strconv.FormatInt(value, 2), size)
		for i := range text {
			if text[i] == '1' {
				holes = append(holes, start+int64(i))
			}
		}
		if len(holes)%2 == 0 {
			holes = append(holes, start+int64(size))
		}
	case impl.KdSum:
		for i, digit := range padded(strconv.FormatInt(value, 10), size) {
			for _, hole := range sumHoles(int64(digit - '0')) {
				holes = append(holes, start+int64(4*i)+hole)
			}
		}
	case impl.KdPairs:
		for i, digit := range padded(strconv.FormatInt(value, 10), size) {
			for _, hole := range pairHoles(int64(digit - '0')) {
				holes = append(holes, start+int64(5*i)+hole)
			}
		}
	}
	return holes
}

func padded(text string, size int) string {
	return strings.Repeat("0", size-len(text)) + text
}

// sumHoles looks for the fewest of the worths 7, 4, 2 and 1 that have a digit as their sum.
func sumHoles(digit int64) []int64 {
	if digit == 0 {
		return []int64{0, 1}
	}
	var best []int64
	for set := 1; set < 16; set++ {
		var holes []int64
		sum := int64(0)
		for hole, worth := range []int64{7, 4, 2, 1} {
			if set&(1<<hole) != 0 {
				holes = append(holes, int64(hole))
				sum += worth
			}
		}
		if sum == digit && (best == nil || len(holes) < len(best)) {
			best = holes
		}
	}
	return best
}

// pairHoles counts the pairs of five holes until it comes to a digit.
func pairHoles(digit int64) []int64 {
	for i := int64(0); i < 5; i++ {
		for k := i + 1; k < 5; k++ {
			if digit == 0 {
				return []int64{i, k}
			}
			digit--
		}
	}
	return nil
}

// someScheme is a scheme with each kind, gaps, and a field over the border between the two numbers of a mask.
func someScheme() []impl.Field {
	return []impl.Field{
		{Name: "kind", Kind: impl.KdDirect, Start: 2, Size: 7},
		{Name: "year", Kind: impl.KdSum, Start: 10, Size: 4},
		{Name: "place", Kind: impl.KdPairs, Start: 55, Size: 3},
		{Name: "count", Kind: impl.KdBinary, Start: 83, Size: 12},
		{Name: "x", Kind: impl.KdDirect, Start: 0, Size: 1},
	}
}

// manyFields is the longest scheme, over all holes.
func manyFields() []impl.Field {
	var list []impl.Field
	for i := range int16(impl.MaxFields) {
		list = append(list, impl.Field{Name: "f" + string(rune('a'+i)), Kind: impl.KdDirect, Start: 8 * i, Size: 8})
	}
	return list
}

// wrongSchemes are schemes that are almost valid.
func wrongSchemes() [][]impl.Field {
	good := impl.Field{Name: "a", Kind: impl.KdDirect, Start: 0, Size: 3}
	list := [][]impl.Field{
		append(manyFields(), impl.Field{}),
		{good, {Name: "a", Kind: impl.KdDirect, Start: 3, Size: 3}},
		{good, {Name: "b", Kind: impl.KdSum, Start: 2, Size: 1}},
		{{Name: "b", Kind: impl.KdSum, Start: 60, Size: 2}, {Name: "a", Kind: impl.KdDirect, Start: 67, Size: 1}},
		{good, {Name: "b", Kind: impl.KdBinary, Start: 5, Size: 3}, {Name: "c", Kind: impl.KdDirect, Start: 8, Size: 1}},
		{good, {Name: "b", Kind: impl.KdBinary, Start: 5, Size: 3}, good},
	}
	thirteen := manyFields()
	for i := range thirteen {
		thirteen[i].Size = 7
	}
	list = append(list, append(thirteen, impl.Field{Name: "z", Kind: impl.KdDirect, Start: 7, Size: 1}))
	for _, f := range wrongFields() {
		list = append(list, []impl.Field{f}, []impl.Field{good, f})
	}
	return list
}

// wrongNames are names of no card and of no field.
func wrongNames() []string {
	return []string{"", "A", "a1", "a b", " a", "a ", "a\n", "a-b", "`", "{", "ä", "\xff", "\x00", "abcdefghijklmnopq", "aZ", strings.Repeat("a", 100000)}
}

// wrongFields are fields that are almost valid.
func wrongFields() []impl.Field {
	list := []impl.Field{
		{},
		{Name: "f", Kind: -1, Size: 1},
		{Name: "f", Kind: 4, Size: 1},
		{Name: "f", Kind: -128, Size: 1},
		{Name: "f", Kind: 127, Size: 1},
	}
	for _, name := range wrongNames() {
		list = append(list, impl.Field{Name: name, Kind: impl.KdDirect, Start: 50, Size: 2})
	}
	for kind := range int8(4) {
		most := int16(sizesOf[kind])
		for _, size := range []int16{0, -1, most + 1, 32767, -32768} {
			list = append(list, impl.Field{Name: "f", Kind: kind, Size: size})
		}
		for _, start := range []int16{-1, -32768, 96, 32767, int16(97 - widthOf(kind, 1))} {
			list = append(list, impl.Field{Name: "f", Kind: kind, Start: start, Size: 1})
		}
		list = append(list, impl.Field{Name: "f", Kind: kind, Start: 97 - int16(widthOf(kind, int64(most))), Size: most})
	}
	return list
}

// wrongCards are cards that are almost valid.
func wrongCards() []impl.Card {
	list := []impl.Card{{}}
	for _, name := range wrongNames() {
		list = append(list, impl.Card{Name: name, Notches: maskOf(3)})
	}
	for _, m := range invalidMasks() {
		list = append(list, impl.Card{Name: "ant", Notches: m})
	}
	return list
}

// less tells whether one list of holes is all in another one.
func less(a, b []int64) bool {
	for _, hole := range a {
		i := sort.Search(len(b), func(i int) bool { return b[i] >= hole })
		if i == len(b) || b[i] != hole {
			return false
		}
	}
	return true
}

// withOneByteWrong returns a text of which a byte has become one of some bytes, or is gone, or to which one of these has been added.
func withOneByteWrong(r *rand.Rand, text, bytes string) string {
	at := r.Intn(len(text) + 1)
	one := string(bytes[r.Intn(len(bytes))])
	switch {
	case at == len(text) || r.Intn(3) == 0:
		return text[:at] + one + text[at:]
	case r.Intn(2) == 0:
		return text[:at] + one + text[at+1:]
	}
	return text[:at] + text[at+1:]
}

func label(list ...any) string { return fmt.Sprintln(list...) }
