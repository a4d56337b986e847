package tests

import (
	"math/rand"
	"regexp"
	"slices"
	"strconv"
	"strings"
	"testing"

	"loop.example/g01261/impl"
)

func checkEditsText(t *testing.T, edits []impl.Edit) {
	t.Helper()
	text := impl.EditsText(edits)
	sameOf(t, text, textOfEdits(edits), "EditsText", edits)
	back, code := impl.ReadEdits(text)
	same(t, label("ReadEdits", text), back, edits)
	sameOf(t, code, int64(impl.OK), "ReadEdits", text)
}

func TestPromise16EditsFromTexts(t *testing.T) {
	for _, e := range goodEdits() {
		checkEditsText(t, []impl.Edit{e})
		checkEditsText(t, []impl.Edit{e, notchEdit("bee", 7), e})
	}
	checkEditsText(t, nil)
	checkEditsText(t, []impl.Edit{})
	checkEditsText(t, goodEdits()[:impl.MaxEdits])
	checkEditsText(t, slices.Repeat([]impl.Edit{addEdit(impl.Card{Name: "abcdefghijklmnop", Notches: fullMask})}, impl.MaxEdits))
	r := rand.New(rand.NewSource(340))
	for range 500 {
		var edits []impl.Edit
		deck := randomDeck(r, 10)
		for range r.Intn(20) {
			edits = append(edits, randomEdit(r, deck))
		}
		checkEditsText(t, edits)
	}
}

func TestPromise16EditsTextsByHand(t *testing.T) {
	for text, edits := range map[string][]impl.Edit{
		"":                    {},
		"add a\n":             {{Kind: impl.EdAdd, Name: "a"}},
		"add b 1 2\n":         {{Kind: impl.EdAdd, Name: "b", Notches: maskOf(1, 2)}},
		"drop add 0 64 95\n":  {{Kind: impl.EdDrop, Name: "add", Notches: maskOf(0, 64, 95)}},
		"notch a 0\n":         {{Kind: impl.EdNotch, Name: "a"}},
		"notch fill 95\n":     {{Kind: impl.EdNotch, Name: "fill", Hole: 95}},
		"fill a 3\nadd b 7\n": {{Kind: impl.EdFill, Name: "a", Hole: 3}, {Kind: impl.EdAdd, Name: "b", Notches: maskOf(7)}},
		"drop a\ndrop a\n":    {{Kind: impl.EdDrop, Name: "a"}, {Kind: impl.EdDrop, Name: "a"}},
	} {
		same(t, label("EditsText", edits), impl.EditsText(edits), text)
		back, code := impl.ReadEdits(text)
		same(t, label("ReadEdits", text), back, edits)
		same(t, label("ReadEdits", text), code, int64(impl.OK))
	}
}

// Too many edits have the empty text, and are not read.
func TestPromise16TextsOfTooManyEdits(t *testing.T) {
	for _, e := range goodEdits()[:14] {
		edits := slices.Repeat([]impl.Edit{e}, impl.MaxEdits)
		checkEditsText(t, edits)
		for _, n := range []int{1, 2, 300} {
			more := append(slices.Clone(edits), slices.Repeat([]impl.Edit{e}, n)...)
			same(t, "EditsText", impl.EditsText(more), "")
			back, code := impl.ReadEdits(textOfEdits(more))
			checkCode(t, "ReadEdits", []any{back, code}, impl.ErrSyntax)
		}
	}
}

// Texts that are almost those of edits.
func TestPromise16TextsThatAreNoEdits(t *testing.T) {
	for _, text := range []string{
		"\n", " ", " \n", "\n\n", "add", "add\n", "add \n", "drop\n", "notch\n", "fill\n", "a\n", "a 3\n", " a 3\n", "a",
		"add a", "add a 3", "add a\n\n", "\nadd a\n", "add a\nadd b", "add a \n", " add a\n", "add  a\n", "add a  3\n", "add a 3 \n", "add\ta\n", "add a\t3\n", "add a\r\n", "add a\x00\n", "add a 3,4\n", "add a 3-4\n",
		"Add a\n", "ADD a\n", "adds a\n", "ad a\n", "adda\n", "add add a\n", "drops a\n", "Drop a\n", "notches a 3\n", "Notch a 3\n", "fills a 3\n", "filled a 3\n", "Fill a 3\n", "1 a\n", "0 a\n", "3 a 3\n", "change a 3\n", "undo a\n", "add: a\n", "+ a\n", "äd a\n",
		"add A\n", "add a1\n", "add a-b\n", "add 3\n", "add abcdefghijklmnopq\n", "add ä\n", "add \xff\n", "notch 3\n", "notch 3 a\n", "notch  3\n", "fill A 3\n", "fill abcdefghijklmnopq 3\n",
		"add a 96\n", "add a -1\n", "add a 03\n", "add a +3\n", "add a -0\n", "add a 3 3\n", "add a 4 3\n", "add a b\n", "add a 3x\n", "add a 0x3\n", "add a 1e1\n", "add a 3.0\n", "add a 99999999999999999999\n", "add a 18446744073709551619\n",
		"notch a\n", "fill a\n", "notch a \n", "fill a \n", "notch a 3 4\n", "fill a 3 4\n", "notch a 3 3\n", "fill a 4 3\n", "notch a 96\n", "fill a 96\n", "notch a -1\n", "fill a -1\n", "notch a 03\n", "fill a +3\n", "notch a 00\n", "fill a -0\n", "notch a 3 \n", "notch a b\n", "fill a 65539\n", "notch a 259\n", "fill a 4294967299\n", "notch a 99999999999999999999\n", "notch a\u0663\n", "notch a \u0663\n",
		"fill a 3\nfill", "fill a 3\nfill a", "fill a 3\nfill a 4", "fill a 3\n\nfill a 4\n", "fill a 3fill a 4\n", "fill a 3\rfill a 4\n", "fill a 3\nfill a 4\n ", "fill a 3 notch a 4\n", "fill a 3\nnotch a 4\nadd\n", "fill a 3;notch a 4\n",
	} {
		edits, code := impl.ReadEdits(text)
		checkCode(t, label("ReadEdits", strconv.Quote(text)), []any{edits, code}, impl.ErrSyntax)
		same(t, label("text", strconv.Quote(text)), isEditsText(text), false)
	}
}

var linePattern = regexp.MustCompile(`^(?:(add|drop) [a-z]{1,16}((?: (?:0|[1-9][0-9]?))*)|(notch|fill) [a-z]{1,16}( (?:0|[1-9][0-9]?)))$`)

// isEditsText tells whether a text is that of valid edits.
func isEditsText(text string) bool {
	lines := strings.SplitAfter(text, "\n")
	if lines[len(lines)-1] != "" || len(lines) > 201 {
		return false
	}
	for _, line := range lines[:len(lines)-1] {
		found := linePattern.FindStringSubmatch(strings.TrimSuffix(line, "\n"))
		if found == nil || strings.Count(line, "\n") != 1 {
			return false
		}
		before := -1
		for _, word := range strings.Fields(found[2] + found[4]) {
			hole, _ := strconv.Atoi(word)
			if hole <= before || hole > 95 {
				return false
			}
			before = hole
		}
	}
	return true
}

// Whatever is read has just this text, also if a byte of a text has become another one, is gone, or is new.
func TestPromise16TextsWithOneByteWrong(t *testing.T) {
	r := rand.New(rand.NewSource(341))
	read := 0
	for range 8000 {
		edits := []impl.Edit{}
		for range 1 + r.Intn(3) {
			c := impl.Card{Name: "ad"[:1+r.Intn(2)], Notches: maskOf(r.Int63n(96), r.Int63n(96))}
			edits = append(edits, []impl.Edit{addEdit(c), dropEdit(c), notchEdit(c.Name, r.Int63n(96)), fillEdit(c.Name, r.Int63n(96))}[r.Intn(4)])
		}
		text := withOneByteWrong(r, textOfEdits(edits), "01259-+ \nadfilx")
		back, code := impl.ReadEdits(text)
		if isEditsText(text) {
			read++
			sameOf(t, code, int64(impl.OK), "ReadEdits", strconv.Quote(text))
			sameOf(t, textOfEdits(back), text, "ReadEdits", strconv.Quote(text))
			continue
		}
		checkCode(t, label("ReadEdits", strconv.Quote(text)), []any{back, code}, impl.ErrSyntax)
	}
	if read < 500 {
		t.Errorf("just %d texts are read", read)
	}
}
