package tests

import (
	"strconv"
	"strings"
	"testing"

	"loop.example/g01261/impl"
)

// textOfMix writes a mix, valid or not.
func textOfMix(x impl.Mix) string {
	return "mix " + strconv.Itoa(int(x.Start)) + " " + strconv.Itoa(int(x.Size)) + " " + strconv.Itoa(int(x.Per))
}

// All mixes with numbers about those at the limits: which are valid, which holes they have, and what their texts are.
func TestMixesAndTheirTexts(t *testing.T) {
	valid := 0
	for start := int16(-2); start <= 98; start++ {
		for size := int16(-2); size <= 99; size++ {
			for per := int16(-1); per <= 10; per++ {
				x := impl.Mix{Start: start, Size: size, Per: per}
				want := size >= 4 && size <= 96 && per >= 1 && per <= 8 && per+per <= size && start >= 0 && start+size <= 96
				if got := impl.ValidMix(x); got != want {
					t.Fatalf("ValidMix of %v: got %v", x, got)
				}
				part, code := impl.MixPart(x)
				text := impl.MixText(x)
				back, fault := impl.ReadMix(textOfMix(x))
				if want {
					valid++
					if part != partIn(x) || code != impl.OK || text != textOfMix(x) || back != x || fault != impl.OK {
						t.Fatalf("%v: got %v, %d, %q, %v, %d", x, part, code, text, back, fault)
					}
				} else if part != (impl.Mask{}) || code != impl.ErrInvalid || text != "" || back != (impl.Mix{}) || fault != impl.ErrSyntax {
					t.Fatalf("%v: got %v, %d, %q, %v, %d", x, part, code, text, back, fault)
				}
			}
		}
	}
	if valid < 10000 {
		t.Errorf("%d valid mixes", valid)
	}
}

func TestMixesAtTheLimits(t *testing.T) {
	for _, x := range goodMixes() {
		same(t, label("good mix", x), impl.ValidMix(x), true)
	}
	for _, x := range wrongMixes() {
		same(t, label("wrong mix", x), impl.ValidMix(x), false)
		part, code := impl.MixPart(x)
		same(t, label("MixPart", x), []any{part, code}, []any{impl.Mask{}, int64(impl.ErrInvalid)})
		same(t, label("MixText", x), impl.MixText(x), "")
		back, code := impl.ReadMix(textOfMix(x))
		same(t, label("ReadMix", x), []any{back, code}, []any{impl.Mix{}, int64(impl.ErrSyntax)})
	}
}

func TestTextsThatAreNoMix(t *testing.T) {
	for _, text := range []string{
		"", " ", "mix", "mix ", "mix 0", "mix 0 40", "mix 0 40 ", "mix 0 40 4 ", " mix 0 40 4", "mix  0 40 4", "mix 0  40 4", "mix 0 40  4", "mix 0 40 4 0", "mix 0 40 4 mix", "0 40 4", "mix 0 40 4\n", "\nmix 0 40 4", "mix 0 40 4\r\n", "mix\t0 40 4", "mix 0\n40 4", "mix 0 40\t4",
		"Mix 0 40 4", "MIX 0 40 4", "mi 0 40 4", "mixx 0 40 4", "mox 0 40 4", " 0 40 4", "ant 0 40 4", "mix, 0 40 4", "mix:0 40 4", "mix0 40 4", "mix 0,40,4", "\xff 0 40 4", "mix\x00 0 40 4",
		"mix 00 40 4", "mix 0 040 4", "mix 0 40 04", "mix +0 40 4", "mix 0 +40 4", "mix 0 40 +4", "mix -0 40 4", "mix -1 40 4", "mix 0 -40 4", "mix 0 40 -4",
		"mix 0 3 1", "mix 0 4 3", "mix 0 4 0", "mix 0 97 1", "mix 1 96 1", "mix 57 40 4", "mix 93 4 1", "mix 0 40 9", "mix 0 15 8",
		"mix x 40 4", "mix 0 x 4", "mix 0 40 x", "mix 0 40 4x", "mix 0x0 40 4", "mix 0 4_0 4", "mix 0 40. 4", "mix 0 4e1 4", "mix 0 40 ٤", "mix 0 40 4\x00",
		"mix 65536 40 4", "mix 0 65576 4", "mix 0 40 65540", "mix 0 40 4294967300", "mix 0 18446744073709551656 4", "mix 0 40 99999999999999999999999999",
		strings.Repeat(" ", 1000000), strings.Repeat("mix", 300000), "mix 0 40 " + strings.Repeat("0", 900000) + "4", "mix" + strings.Repeat(" 4", 400000),
	} {
		x, code := impl.ReadMix(text)
		if x != (impl.Mix{}) || code != impl.ErrSyntax {
			t.Errorf("ReadMix of %.40q: got %v, %d", text, x, code)
		}
	}
}

// The example of the chapter.
func TestExampleOfChapter3(t *testing.T) {
	x := impl.Mix{Start: 0, Size: 40, Per: 4}
	words := []string{"ant", "bee", "fly"}
	for _, word := range words {
		n, code := impl.NeedlesFor(x, []string{word})
		same(t, label("NeedlesFor", word), []int64{n, code}, []int64{4, impl.OK})
	}
	n, code := impl.NeedlesFor(x, words)
	same(t, "NeedlesFor three words", []any{n <= 12, code}, []any{true, int64(impl.OK)})
	count, code := impl.CountFalse(x, [][]string{words})
	same(t, "CountFalse", []int64{count, code}, []int64{0, impl.OK})
	m, _ := impl.AddWords(x, impl.Mask{}, words)
	for _, word := range words {
		yes, code := impl.Drops(x, m, []string{word})
		same(t, label("Drops", word), []any{yes, code}, []any{true, int64(impl.OK)})
	}
	list, code := impl.ExplainMask(x, impl.Mask{}, words, impl.MaxCover)
	same(t, "ExplainMask", list, []int64{})
	same(t, "ExplainMask", code, int64(impl.OK))
	same(t, "MixText", impl.MixText(x), "mix 0 40 4")
}
