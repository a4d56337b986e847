package tests

import (
	"math/rand"
	"strconv"
	"strings"
	"testing"

	"loop.example/g01261/impl"
)

// textOf tells the text of a card without the help of the package.
func textOf(c impl.Card) string {
	text := c.Name
	for _, hole := range holesIn(c.Notches) {
		text += " " + strconv.FormatInt(hole, 10)
	}
	return text
}

// goodSchemes are valid.
func goodSchemes() [][]impl.Field {
	list := [][]impl.Field{nil, {}, someScheme(), manyFields()}
	for _, f := range allForms() {
		f.Start = 96 - int16(widthOf(f.Kind, int64(f.Size)))
		list = append(list, []impl.Field{f})
	}
	return append(list, []impl.Field{ // close to each other, and not in order
		{Name: "c", Kind: impl.KdBinary, Start: 91, Size: 4},
		{Name: "b", Kind: impl.KdPairs, Start: 3, Size: 4},
		{Name: "a", Kind: impl.KdDirect, Start: 0, Size: 3},
	})
}

func TestValidSchemes(t *testing.T) {
	for _, list := range goodSchemes() {
		same(t, label("scheme", list), impl.ValidScheme(list), true)
	}
	for i, list := range wrongSchemes() {
		same(t, label("wrong scheme", i), impl.ValidScheme(list), false)
	}
}

func TestFieldsOfHoles(t *testing.T) {
	for _, list := range goodSchemes() {
		for hole := range int64(impl.Holes) {
			want := []int64{0, impl.ErrNotFound}
			for i, f := range list {
				if hole >= int64(f.Start) && hole < int64(f.Start)+widthOf(f.Kind, int64(f.Size)) {
					want = []int64{int64(i), impl.OK}
				}
			}
			at, code := impl.FieldOfHole(list, hole)
			same(t, label("FieldOfHole", list, hole), []int64{at, code}, want)
		}
		for _, hole := range noHoles() {
			at, code := impl.FieldOfHole(list, hole)
			same(t, label("no hole", hole), []int64{at, code}, []int64{0, impl.ErrRange})
		}
	}
	for _, list := range wrongSchemes() {
		for _, hole := range []int64{0, 95, -1, 96} {
			at, code := impl.FieldOfHole(list, hole)
			same(t, "wrong scheme", []int64{at, code}, []int64{0, impl.ErrInvalid})
		}
	}
}

// The values that a card has been made of come out.
func TestPromise3ValuesComeOut(t *testing.T) {
	r := rand.New(rand.NewSource(5))
	for _, list := range goodSchemes() {
		for turn := range 20 {
			values := make([]int64, len(list))
			var holes []int64
			for i, f := range list {
				n := valuesOf(f.Kind, int64(f.Size))
				values[i] = r.Int63n(n+1) - 1
				switch turn {
				case 0:
					values[i] = 0
				case 1:
					values[i] = n - 1
				case 2:
					values[i] = -1
				}
				if values[i] >= 0 {
					holes = append(holes, codeOf(f, values[i])...)
				}
			}
			c, code := impl.MakeCard(list, "bee", values)
			same(t, label("MakeCard", list, values), []any{c, code}, []any{impl.Card{Name: "bee", Notches: maskOf(holes...)}, int64(impl.OK)})
			back, code := impl.ValuesOf(list, c)
			same(t, label("ValuesOf", list), back, values)
			same(t, "ValuesOf code", code, int64(impl.OK))
			one, code := impl.ReadCard(impl.CardText(c))
			same(t, "ReadCard", []any{one, code}, []any{c, int64(impl.OK)})
		}
	}
}

func TestPromise3CardsThatCannotBeMade(t *testing.T) {
	list := someScheme()
	good := []int64{6, 9999, 999, 4095, 0}
	for _, x := range []struct {
		name   string
		values []int64
	}{
		{"bee", nil},
		{"bee", good[:4]},
		{"bee", append(good[:5:5], -1)},
		{"bee", []int64{7, 0, 0, 0, 0}},
		{"bee", []int64{0, 10000, 0, 0, 0}},
		{"bee", []int64{0, 0, 1000, 0, 0}},
		{"bee", []int64{0, 0, 0, 4096, 0}},
		{"bee", []int64{0, 0, 0, 0, 1}},
		{"bee", []int64{-2, 0, 0, 0, 0}},
		{"bee", []int64{0, 0, 0, 0, -1 << 63}},
		{"bee", []int64{0, 0, 0, 0, 1<<63 - 1}},
	} {
		c, code := impl.MakeCard(list, x.name, x.values)
		same(t, label("MakeCard", x), []any{c, code}, []any{impl.Card{}, int64(impl.ErrRange)})
	}
	for _, name := range wrongNames() {
		for _, values := range [][]int64{good, nil} {
			c, code := impl.MakeCard(list, name, values)
			same(t, "wrong name", []any{c, code}, []any{impl.Card{}, int64(impl.ErrRange)})
		}
	}
	c, code := impl.MakeCard(nil, "bee", []int64{-1})
	same(t, "a value for no field", []any{c, code}, []any{impl.Card{}, int64(impl.ErrRange)})
	c, code = impl.MakeCard(nil, "bee", nil)
	same(t, "no fields", []any{c, code}, []any{impl.Card{Name: "bee"}, int64(impl.OK)})
	for _, wrong := range wrongSchemes() {
		for _, name := range []string{"bee", ""} {
			for _, values := range [][]int64{make([]int64, len(wrong)), nil, good} {
				c, code := impl.MakeCard(wrong, name, values)
				same(t, "wrong scheme", []any{c, code}, []any{impl.Card{}, int64(impl.ErrInvalid)})
			}
		}
	}
}

func TestPromise3ValuesThatAreNone(t *testing.T) {
	list := someScheme()
	c, _ := impl.MakeCard(list, "bee", []int64{6, 9999, -1, 4095, 0})
	for _, hole := range []int64{2, 11, 55, 83} {
		torn := impl.Card{Name: "bee", Notches: impl.JoinMasks(c.Notches, maskOf(hole))}
		if hole == 83 { // this one is notched, and is filled
			torn.Notches = impl.LessMask(c.Notches, maskOf(hole))
		}
		values, code := impl.ValuesOf(list, torn)
		same(t, label("torn", hole), values, []int64{})
		same(t, label("torn", hole), code, int64(impl.ErrProof))
	}
	beside := impl.Card{Name: "bee", Notches: impl.JoinMasks(c.Notches, maskOf(1, 9, 26, 54, 70, 82))}
	values, code := impl.ValuesOf(list, beside)
	same(t, "beside the fields", values, []int64{6, 9999, -1, 4095, 0})
	same(t, "beside the fields", code, int64(impl.OK))
	values, code = impl.ValuesOf(nil, beside)
	same(t, "no fields", values, []int64{})
	same(t, "no fields", code, int64(impl.OK))
	for _, wrong := range wrongCards() {
		values, code := impl.ValuesOf(list, wrong)
		same(t, "wrong card", values, []int64{})
		same(t, "wrong card", code, int64(impl.ErrInvalid))
	}
	for _, wrong := range wrongSchemes() {
		for _, c := range []impl.Card{c, {Name: "bee", Notches: impl.Mask{^uint64(0), 0xffffffff}}, {}} {
			values, code := impl.ValuesOf(wrong, c)
			same(t, "wrong scheme", values, []int64{})
			same(t, "wrong scheme", code, int64(impl.ErrInvalid))
		}
	}
}

func TestPromise3CardsFromTexts(t *testing.T) {
	r := rand.New(rand.NewSource(6))
	cards := []impl.Card{{Name: "a"}, {Name: "abcdefghijklmnop", Notches: impl.Mask{^uint64(0), 0xffffffff}}}
	for hole := range int64(impl.Holes) {
		cards = append(cards, impl.Card{Name: "ant", Notches: maskOf(hole)})
	}
	for range 200 {
		cards = append(cards, impl.Card{Name: "ant", Notches: randomMask(r)})
	}
	for _, c := range cards {
		same(t, "CardText", impl.CardText(c), textOf(c))
		back, code := impl.ReadCard(textOf(c))
		same(t, label("ReadCard", textOf(c)), []any{back, code}, []any{c, int64(impl.OK)})
	}
	for _, c := range wrongCards() {
		same(t, "text of a wrong card", impl.CardText(c), "")
		if text := textOf(c); len(text) > 0 {
			back, code := impl.ReadCard(text)
			if code == impl.OK && back == c {
				t.Errorf("ReadCard returns a wrong card %v", c)
			}
		}
	}
}

func TestPromise3TextsThatAreNoCard(t *testing.T) {
	for _, text := range []string{
		"", " ", "3", " ant", "ant ", "ant 3 ", "ant  3", " ant 3", "ant 3  70", "ant 3 70\n", "\nant 3", "ant\n", "ant\t3",
		"ant 70 3", "ant 3 3", "ant 03", "ant 00", "ant -0", "ant +3", "ant -1", "ant 96", "ant 97", "ant 3 96", "ant 128", "ant 3x", "ant x3", "ant x", "ant 3.0", "ant 1e1", "ant 0x3", "ant 1_0",
		"ant 18446744073709551619", "ant 9223372036854775808", "ant 99999999999999999999999999", "ant, 3", "ant,3", "ant 3,70",
		"Ant 3", "an1 3", "ant bee 3", "abcdefghijklmnopq 3", "\xff 3", "ant \xff", "ant\x00", "ant 3\x00", "ant ٣",
		strings.Repeat(" ", 1000000), strings.Repeat("a", 1000000), "ant " + strings.Repeat("0", 999990), "ant" + strings.Repeat(" 3", 300000),
	} {
		c, code := impl.ReadCard(text)
		if c != (impl.Card{}) || code != impl.ErrSyntax {
			t.Errorf("ReadCard of %.40q: got %v, %d", text, c, code)
		}
	}
}

func TestPromise3SchemesFromTexts(t *testing.T) {
	words := []string{"direct", "sum", "pairs", "binary"}
	for _, list := range goodSchemes() {
		text := ""
		for _, f := range list {
			text += f.Name + " " + words[f.Kind] + " " + strconv.Itoa(int(f.Start)) + " " + strconv.Itoa(int(f.Size)) + "\n"
		}
		same(t, "SchemeText", impl.SchemeText(list), text)
		back, code := impl.ReadScheme(text)
		same(t, label("ReadScheme", text), back, list)
		same(t, label("ReadScheme", text), code, int64(impl.OK))
	}
	for i, list := range wrongSchemes() {
		same(t, label("text of a wrong scheme", i), impl.SchemeText(list), "")
		text := ""
		for _, f := range list {
			if f.Kind >= 0 && f.Kind < 4 {
				text += f.Name + " " + words[f.Kind] + " " + strconv.Itoa(int(f.Start)) + " " + strconv.Itoa(int(f.Size)) + "\n"
			} else {
				text += f.Name + " direct 96 1\n"
			}
		}
		back, code := impl.ReadScheme(text)
		same(t, label("read of a wrong scheme", i), back, []impl.Field{})
		same(t, label("read of a wrong scheme", i), code, int64(impl.ErrSyntax))
	}
}

func TestPromise3TextsThatAreNoScheme(t *testing.T) {
	for _, text := range []string{
		"\n", " ", "a", "kind direct 0 3", "kind direct 0 3\n\n", "\nkind direct 0 3\n", "kind direct 0 3\r\n", "kind direct 0 3 \n", " kind direct 0 3\n", "kind  direct 0 3\n", "kind direct 0  3\n", "kind\tdirect 0 3\n",
		"kind direct 0\n", "kind direct 0 3 1\n", "kind 0 3\n", "direct 0 3\n", "kind 0 0 3\n", "kind Direct 0 3\n", "kind none 0 3\n", "kind  0 3\n", "kind directs 0 3\n", "kind direc 0 3\n", "kind sums 0 3\n", "kind pair 0 3\n",
		"kind direct 00 3\n", "kind direct 0 03\n", "kind direct +0 3\n", "kind direct 0 +3\n", "kind direct -0 3\n", "kind direct -1 3\n", "kind direct 0 -3\n", "kind direct 0 0\n", "kind direct 0 25\n", "kind direct 94 3\n", "kind sum 93 1\n", "kind sum 0 5\n", "kind pairs 92 1\n", "kind binary 95 1\n", "kind binary 0 13\n",
		"kind direct x 3\n", "kind direct 0 x\n", "kind direct 65536 3\n", "kind direct 0 65539\n", "kind direct 4294967296 3\n", "kind direct 0 18446744073709551619\n", "kind direct 1_0 3\n", "kind direct 0x0 3\n",
		"Kind direct 0 3\n", "k1 direct 0 3\n", " direct 0 3\n", "abcdefghijklmnopq direct 0 3\n",
		"kind direct 0 3\nkind direct 4 3\n", "kind direct 0 3\nyear sum 2 1\n", "kind direct 0 3\nyear sum 4 1", "kind direct 0 3 year sum 4 1\n", "kind direct 0 3\n\nyear sum 4 1\n", "kind direct 0 3;year sum 4 1\n",
		strings.Repeat("\n", 1000000), strings.Repeat("a", 1000000), strings.Repeat("kind direct 0 3\n", 60000), strings.Repeat(" ", 1000000),
	} {
		list, code := impl.ReadScheme(text)
		if len(list) != 0 || code != impl.ErrSyntax {
			t.Errorf("ReadScheme of %.60q: got %v, %d", text, list, code)
		}
	}
	list, code := impl.ReadScheme("")
	same(t, "empty text", list, []impl.Field{})
	same(t, "empty text", code, int64(impl.OK))
	same(t, "empty scheme", impl.SchemeText(nil), "")
}

// The example of the chapter.
func TestExampleOfChapter1(t *testing.T) {
	for _, x := range []struct {
		f     impl.Field
		value int64
		holes []int64
	}{
		{impl.Field{Name: "s", Kind: impl.KdSum, Start: 10, Size: 2}, 38, []int64{12, 13, 14, 17}},
		{impl.Field{Name: "p", Kind: impl.KdPairs, Start: 0, Size: 1}, 4, []int64{1, 2}},
		{impl.Field{Name: "b", Kind: impl.KdBinary, Start: 20, Size: 3}, 5, []int64{20, 22, 23}},
		{impl.Field{Name: "b", Kind: impl.KdBinary, Start: 20, Size: 3}, 0, []int64{23}},
	} {
		m, code := impl.EncodeField(x.f, x.value)
		same(t, label("EncodeField", x), []any{m, code}, []any{maskOf(x.holes...), int64(impl.OK)})
	}
	same(t, "CardText", impl.CardText(impl.Card{Name: "ant", Notches: maskOf(70, 3)}), "ant 3 70")
}
