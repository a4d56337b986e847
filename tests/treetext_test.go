package tests

import (
	"math/rand"
	"strconv"
	"strings"
	"testing"

	"loop.example/g01261/impl"
)

func checkTreeText(t *testing.T, tree []impl.Knot) {
	t.Helper()
	text := impl.TreeText(tree)
	sameOf(t, text, treeTextIn(tree), "TreeText", tree)
	back, code := impl.ReadTree(text)
	sameTrees(t, back, tree, "ReadTree", text)
	sameOf(t, code, int64(impl.OK), "ReadTree", text)
}

func TestPromise14TreesFromTexts(t *testing.T) {
	for _, tree := range goodTrees() {
		checkTreeText(t, tree)
	}
	r := rand.New(rand.NewSource(220))
	for range 500 {
		checkTreeText(t, randomTree(r, 1+r.Intn(120)))
	}
	for i, tree := range wrongTrees() {
		same(t, label("TreeText", i), impl.TreeText(tree), "")
	}
}

func TestPromise14TreeTextsByHand(t *testing.T) {
	for text, tree := range map[string][]impl.Knot{
		"leaf\n":                                {leafOf()},
		"leaf 0 7 59\n":                         {leafOf(0, 7, 59)},
		"ask 0 1 1 2 2\nleaf 0\nleaf 1\n":       {askOf(0, 1, 1, 2, 2), leafOf(0), leafOf(1)},
		"ask 11 torn 2 empty 1\nleaf 3\nleaf\n": {askOf(11, -2, 2, -1, 1), leafOf(3), leafOf()},
		"ask 3 empty 2 0 1 9999 3\nleaf\nleaf\nask 3 9223372036854775807 4\nleaf 10\n": {askOf(3, -1, 2, 0, 1, 9999, 3), leafOf(), leafOf(), askOf(3, 1<<63-1, 4), leafOf(10)},
	} {
		same(t, "TreeText", impl.TreeText(tree), text)
		back, code := impl.ReadTree(text)
		sameTrees(t, back, tree, "ReadTree", text)
		same(t, "ReadTree", code, int64(impl.OK))
	}
}

// Texts that are almost those of trees.
func TestPromise14TextsThatAreNoTrees(t *testing.T) {
	const two = "ask 0 1 1 2 2\nleaf 0\nleaf 1\n"
	for _, text := range []string{
		"", "\n", " ", " \n", "\n\n", "leaf", "leaf\n\n", "\nleaf\n", "leaf \n", " leaf\n", "leaf\r\n", "Leaf\n", "leaves\n", "lea\n", "leaf\x00\n", "leaf\xff\n", "l\u00e9af\n", "-1\n", "ask\n", "ask -1\n", "ask -1 0\n",
		"leaf 0", "leaf  0\n", "leaf 0 \n", "leaf\t0\n", "leaf 00\n", "leaf +0\n", "leaf -0\n", "leaf -1\n", "leaf empty\n", "leaf torn\n", "leaf 60\n", "leaf 1 0\n", "leaf 0 0\n", "leaf 0,1\n", "leaf 0 1 1\n", "leaf x\n", "leaf 0x1\n", "leaf 1.0\n", "leaf 1e1\n", "leaf 1_0\n", "leaf 01\n", "leaf \u0661\n", "leaf 99999999999999999999\n", "leaf 18446744073709551616\n", "leaf 4294967296\n", "leaf leaf\n", "leaf 0 leaf 1\n",
		"leaf\nleaf\n", two + "leaf\n", two + "leaf", two + "\n", two + two, "\n" + two, two[:len(two)-1], strings.ReplaceAll(two, "\n", "\r\n"), strings.ReplaceAll(two, "\n", " "),
		"ask 0\n", "ask 0 1\nleaf\n", "ask 0 1 1", "ask 0 1 1\n", "ask 0 1 1 2\nleaf\n", "ask 0 1 1 2 \nleaf\nleaf\n", "ask 0 1 1 \nleaf\n", "ask  0 1 1\nleaf\n", "ask 0 1  1\nleaf\n", "Ask 0 1 1\nleaf\n", "asks 0 1 1\nleaf\n", "ask0 1 1\nleaf\n", "0 1 1\nleaf\n",
		"ask 12 1 1\nleaf\n", "ask -1 1 1\nleaf\n", "ask empty 1 1\nleaf\n", "ask torn 1 1\nleaf\n", "ask 00 1 1\nleaf\n", "ask +0 1 1\nleaf\n", "ask -0 1 1\nleaf\n", "ask 65536 1 1\nleaf\n", "ask 65537 1 1\nleaf\n", "ask 65535\n", "ask 65535 0\n", "ask 4294967296 1 1\nleaf\n", "ask x 1 1\nleaf\n", "ask kind 1 1\nleaf\n",
		"ask 0 -1 1\nleaf\n", "ask 0 -2 1\nleaf\n", "ask 0 -3 1\nleaf\n", "ask 0 Empty 1\nleaf\n", "ask 0 emptyx 1\nleaf\n", "ask 0 01 1\nleaf\n", "ask 0 +1 1\nleaf\n", "ask 0 -0 1\nleaf\n", "ask 0 9223372036854775808 1\nleaf\n", "ask 0 x 1\nleaf\n", "ask 0 none 1\nleaf\n",
		"ask 0 empty 1 torn 2\nleaf\nleaf\n", "ask 0 0 1 empty 2\nleaf\nleaf\n", "ask 0 1 1 1 2\nleaf\nleaf\n", "ask 0 2 1 1 2\nleaf\nleaf\n", "ask 0 torn 1 torn 2\nleaf\nleaf\n",
		"ask 0 1 0\nleaf\n", "ask 0 1 2\nleaf\n", "ask 0 1 -1\nleaf\n", "ask 0 1 empty\nleaf\n", "ask 0 1 torn\nleaf\n", "ask 0 1 01\nleaf\n", "ask 0 1 +1\nleaf\n", "ask 0 1 65537\nleaf\n", "ask 0 1 4294967297\nleaf\n", "ask 0 1 x\nleaf\n", "ask 0 1 1 2 1\nleaf\n", "ask 0 1 1 2 1\nleaf\nleaf\n",
		"ask 0 1 1 2 2\nask 1 0 2\nleaf\n", "ask 0 1 1 2 2\nleaf 0\n", "ask 0 1 2\nleaf\nleaf\n", "leaf 0\nask 0 1 2\nleaf\n", "ask 0 1 1\nask 0 1 0\n", "ask 0 1 1\nask 0 1 1\n", "ask 0 1 1 2 2\nleaf 0 ask\nleaf 1\n",
		treeTextIn(starTree(121)), treeTextIn(chainTree(121)), treeTextIn([]impl.Knot{leafOf(1, 1)}), strings.Repeat("leaf\n", 120), strings.Repeat("leaf\n", 121),
	} {
		tree, code := impl.ReadTree(text)
		checkCode(t, label("ReadTree", strconv.Quote(text)), []any{tree, code}, impl.ErrSyntax)
		same(t, label("text", strconv.Quote(text)), isTreeText(text), false)
	}
}

// isTreeText tells whether a text is that of a valid tree.
func isTreeText(text string) bool {
	lines := strings.Split(text, "\n")
	if lines[len(lines)-1] != "" {
		return false
	}
	tree := []impl.Knot{}
	for _, line := range lines[:len(lines)-1] {
		words := strings.Split(line, " ")
		var numbers []int64
		for _, word := range words[1:] {
			switch number, err := strconv.ParseInt(word, 10, 64); {
			case word == "empty":
				numbers = append(numbers, -1)
			case word == "torn":
				numbers = append(numbers, -2)
			case err != nil || number < 0 || strconv.FormatInt(number, 10) != word:
				return false
			default:
				numbers = append(numbers, number)
			}
		}
		switch {
		case words[0] == "leaf":
			tree = append(tree, leafOf(numbers...))
		case words[0] == "ask" && len(numbers)%2 == 1 && numbers[0] < 100:
			for i := 2; i < len(numbers); i += 2 {
				if numbers[i] > 1000 {
					return false
				}
			}
			tree = append(tree, askOf(int16(numbers[0]), numbers[1:]...))
		default:
			return false
		}
	}
	return isTreeIn(tree)
}

// Whatever is read has just this text, also if a byte of a text has become another one, is gone, or is new.
func TestPromise14TextsWithOneByteWrong(t *testing.T) {
	r := rand.New(rand.NewSource(221))
	read := 0
	for range 8000 {
		text := withOneByteWrong(r, treeTextIn(randomTree(r, 1+r.Intn(8))), "01259-+ \nelt")
		tree, code := impl.ReadTree(text)
		if isTreeText(text) {
			read++
			sameOf(t, code, int64(impl.OK), "ReadTree", strconv.Quote(text))
			sameOf(t, treeTextIn(tree), text, "ReadTree", strconv.Quote(text))
			continue
		}
		checkCode(t, label("ReadTree", strconv.Quote(text)), []any{tree, code}, impl.ErrSyntax)
	}
	if read < 300 {
		t.Errorf("just %d texts are read", read)
	}
}
