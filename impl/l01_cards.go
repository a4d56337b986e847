package impl

import (
	"math"
	"math/bits"
	"strconv"
	"strings"
)

// Codes of errors.
const (
	OK          = 0
	ErrInvalid  = 1
	ErrRange    = 2
	ErrLimit    = 3
	ErrState    = 4
	ErrSyntax   = 5
	ErrNotFound = 6
	ErrBudget   = 7
	ErrProof    = 8
)

// Limits of cards.
const (
	Holes     = 96
	MaxName   = 16
	MaxFields = 12
)

// Kinds of fields.
const (
	KdDirect = 0
	KdSum    = 1
	KdPairs  = 2
	KdBinary = 3
)

// The greatest Size of a field, by its kind.
const (
	mostDirect = 24
	mostDigits = 4
	mostBinary = 12
)

// The number of holes that a mask keeps in one of its numbers.
const wordHoles = 64

// How many holes a decimal digit takes.
const (
	sumWidth   = 4
	pairsWidth = 5
)

// emptyValue stands for an empty field among the values of a card.
const emptyValue = -1

// The codes of the digits 0 to 9. The first hole of a digit is the lowest bit, so a number reads from right to left here: for sums the worths are 1, 2, 4, 7.
var (
	sumDigits   = [10]uint64{0b0011, 0b1000, 0b0100, 0b1100, 0b0010, 0b1010, 0b0110, 0b0001, 0b1001, 0b0101}
	pairsDigits = [10]uint64{0b00011, 0b00101, 0b01001, 0b10001, 0b00110, 0b01010, 0b10010, 0b01100, 0b10100, 0b11000}
)

// The words of the kinds in texts, with the kinds as indices.
var kindWords = [4]string{"direct", "sum", "pairs", "binary"}

// Mask tells of some holes.
type Mask [2]uint64

// Card is notched at some holes.
type Card struct {
	Name    string
	Notches Mask
}

// Field has some holes in which it keeps a value.
type Field struct {
	Name  string
	Kind  int8
	Start int16
	Size  int16
}

// layout is how a field of one kind uses its holes. Its masks are those of a field that starts at the hole 0, so that no layout has to know where its field lies.
type layout interface {
	holes() int64
	most() int64
	encode(value int64) Mask
	decode(part Mask) (int64, bool)
}

// The layouts of the four kinds; each is the Size of its field.
type (
	directLayout int64
	sumLayout    int64
	pairsLayout  int64
	binaryLayout int64
)

// CodeName returns the name of an error code.
func CodeName(code int64) string {
	switch code {
	case OK:
		return "ok"
	case ErrInvalid:
		return "invalid"
	case ErrRange:
		return "range"
	case ErrLimit:
		return "limit"
	case ErrState:
		return "state"
	case ErrSyntax:
		return "syntax"
	case ErrNotFound:
		return "notfound"
	case ErrBudget:
		return "budget"
	case ErrProof:
		return "proof"
	}
	return ""
}

// ValidMask reports whether a mask is valid.
func ValidMask(m Mask) bool { return m[1]>>(Holes-wordHoles) == 0 }

// HasHole reports whether a hole is in a mask.
func HasHole(m Mask, hole int64) (bool, int64) {
	if !ValidMask(m) {
		return false, ErrInvalid
	}
	if !isHole(hole) {
		return false, ErrRange
	}
	return IsWithin(oneHole(hole), m), OK
}

// WithHole returns a mask with a hole, or without it.
func WithHole(m Mask, hole int64, open bool) (Mask, int64) {
	if !ValidMask(m) {
		return Mask{}, ErrInvalid
	}
	if !isHole(hole) {
		return Mask{}, ErrRange
	}
	if open {
		return JoinMasks(m, oneHole(hole)), OK
	}
	return LessMask(m, oneHole(hole)), OK
}

// CountHoles returns how many bits are set.
func CountHoles(m Mask) int64 {
	return int64(bits.OnesCount64(m[0]) + bits.OnesCount64(m[1]))
}

// HolesIn returns all holes of a mask.
func HolesIn(m Mask) ([]int64, int64) {
	if !ValidMask(m) {
		return nil, ErrInvalid
	}
	found := make([]int64, 0, CountHoles(m))
words:
	for i, word := range m {
		for bit := int64(0); ; bit++ {
			left := word >> bit
			if left == 0 {
				continue words
			}
			if left&1 == 1 {
				found = append(found, int64(i)*wordHoles+bit)
			}
		}
	}
	return found, OK
}

// MaskOf returns the mask of some holes.
func MaskOf(holes []int64) (Mask, int64) {
	var m Mask
	for _, hole := range holes {
		if !isHole(hole) {
			return Mask{}, ErrRange
		}
		m = JoinMasks(m, oneHole(hole))
	}
	return m, OK
}

// JoinMasks returns what is in one of two masks.
func JoinMasks(m, n Mask) Mask { return Mask{m[0] | n[0], m[1] | n[1]} }

// MeetMasks returns what is in both masks.
func MeetMasks(m, n Mask) Mask { return Mask{m[0] & n[0], m[1] & n[1]} }

// LessMask returns what is in m, and not in n.
func LessMask(m, n Mask) Mask { return Mask{m[0] &^ n[0], m[1] &^ n[1]} }

// IsWithin reports whether all of m is in n.
func IsWithin(m, n Mask) bool { return MeetMasks(m, n) == m }

// isHole reports whether there is a hole with a number.
func isHole(hole int64) bool { return hole >= 0 && hole < Holes }

// oneHole returns the mask of a hole that is there.
func oneHole(hole int64) Mask { return moveUp(Mask{1}, hole) }

// firstHoles returns the mask of the first n holes.
func firstHoles(n int64) Mask {
	return moveDown(Mask{math.MaxUint64, math.MaxUint64}, 2*wordHoles-n)
}

// moveUp returns a mask with the number of each hole greater by some holes, at least none.
func moveUp(m Mask, by int64) Mask {
	if by >= wordHoles {
		return Mask{0, m[0] << (by - wordHoles)}
	}
	return Mask{m[0] << by, m[1]<<by | m[0]>>(wordHoles-by)}
}

// moveDown returns a mask with the number of each hole less by some holes, at least none.
func moveDown(m Mask, by int64) Mask {
	if by >= wordHoles {
		return Mask{m[1] >> (by - wordHoles), 0}
	}
	return Mask{m[0]>>by | m[1]<<(wordHoles-by), m[1] >> by}
}

// isName reports whether a text is a name of a card or of a field.
func isName(name string) bool { return areLetters(name, MaxName) }

// areLetters reports whether a text is 1 to most letters from a to z.
func areLetters(text string, most int) bool {
	if len(text) < 1 || len(text) > most {
		return false
	}
	for i := range len(text) {
		if text[i] < 'a' || text[i] > 'z' {
			return false
		}
	}
	return true
}

// ValidCard reports whether a card is valid.
func ValidCard(c Card) bool { return isName(c.Name) && ValidMask(c.Notches) }

// ValidField reports whether a field is valid.
func ValidField(f Field) bool {
	if !isName(f.Name) || f.Kind < KdDirect || f.Kind > KdBinary || f.Start < 0 || f.Size < 1 {
		return false
	}
	form := layoutOf(f)
	return int64(f.Size) <= mostSize(form) && int64(f.Start)+form.holes() <= Holes
}

// layoutOf returns the layout of a field whose kind is one of those that there are.
func layoutOf(f Field) layout {
	forms := [...]func(Field) layout{
		KdDirect: Field.direct,
		KdSum:    Field.sum,
		KdPairs:  Field.pairs,
		KdBinary: Field.binary,
	}
	return forms[f.Kind](f)
}

func (f Field) direct() layout { return directLayout(f.Size) }
func (f Field) sum() layout    { return sumLayout(f.Size) }
func (f Field) pairs() layout  { return pairsLayout(f.Size) }
func (f Field) binary() layout { return binaryLayout(f.Size) }

// mostSize returns the greatest Size of fields with the kind of a layout.
func mostSize(form layout) int64 {
	switch form.(type) {
	case directLayout:
		return mostDirect
	case binaryLayout:
		return mostBinary
	default:
		return mostDigits
	}
}

func (size directLayout) holes() int64            { return int64(size) }
func (size directLayout) most() int64             { return int64(size) - 1 }
func (size directLayout) encode(value int64) Mask { return oneHole(value) }

func (size directLayout) decode(part Mask) (int64, bool) {
	value := int64(bits.TrailingZeros64(part[0]))
	return value, size.encode(value) == part
}

func (size sumLayout) holes() int64            { return sumWidth * int64(size) }
func (size sumLayout) most() int64             { return powerOf(10, int64(size)) - 1 }
func (size sumLayout) encode(value int64) Mask { return encodeDigits(size, value, sumWidth) }

func (size sumLayout) digit(value int64) Mask { return Mask{sumDigits[value]} }

func (size sumLayout) decode(part Mask) (int64, bool) {
	return decodeDigits(size, part, sumWidth)
}

func (size pairsLayout) holes() int64            { return pairsWidth * int64(size) }
func (size pairsLayout) most() int64             { return powerOf(10, int64(size)) - 1 }
func (size pairsLayout) encode(value int64) Mask { return encodeDigits(size, value, pairsWidth) }

func (size pairsLayout) digit(value int64) Mask { return Mask{pairsDigits[value]} }

func (size pairsLayout) decode(part Mask) (int64, bool) {
	return decodeDigits(size, part, pairsWidth)
}

func (size binaryLayout) holes() int64 { return int64(size) + 1 }
func (size binaryLayout) most() int64  { return powerOf(2, int64(size)) - 1 }

func (size binaryLayout) encode(value int64) Mask {
	code := Mask{size.reverse(uint64(value))}
	if CountHoles(code)%2 == 0 {
		return JoinMasks(code, oneHole(int64(size)))
	}
	return code
}

func (size binaryLayout) decode(part Mask) (int64, bool) {
	digits := MeetMasks(part, firstHoles(int64(size)))
	value := int64(size.reverse(digits[0]))
	return value, size.encode(value) == part
}

// reverse turns the digits of a number round, as the highest digit has the first hole.
func (size binaryLayout) reverse(digits uint64) uint64 {
	return bits.Reverse64(digits) >> (64 - int64(size))
}

// digitCode is a layout that has a code for each decimal digit.
type digitCode interface {
	layout
	digit(value int64) Mask
}

// encodeDigits joins the codes of the digits of a value, from the last one back to the first one.
func encodeDigits(code digitCode, value, width int64) Mask {
	var m Mask
	for at := code.holes() - width; at >= 0; at -= width {
		m = JoinMasks(m, moveUp(code.digit(value%10), at))
		value /= 10
	}
	return m
}

// decodeDigits returns the value of a mask, and whether there is a digit in each place.
func decodeDigits(code digitCode, part Mask, width int64) (int64, bool) {
	digits := make(map[Mask]int64, 10)
	for digit := range int64(10) {
		digits[code.digit(digit)] = digit
	}
	value := int64(0)
	for at := int64(0); at < code.holes(); at += width {
		digit, known := digits[MeetMasks(moveDown(part, at), firstHoles(width))]
		if !known {
			return 0, false
		}
		value = 10*value + digit
	}
	return value, true
}

// powerOf returns a base to the power n.
func powerOf(base, n int64) int64 {
	power := int64(1)
	for range n {
		power *= base
	}
	return power
}

// HolesOf returns how many holes a field has.
func HolesOf(f Field) (int64, int64) {
	if !ValidField(f) {
		return 0, ErrInvalid
	}
	return layoutOf(f).holes(), OK
}

// PartOf returns the mask of the holes of a field.
func PartOf(f Field) (Mask, int64) {
	if !ValidField(f) {
		return Mask{}, ErrInvalid
	}
	return partOf(f), OK
}

// partOf returns the mask of the holes of a valid field.
func partOf(f Field) Mask {
	return moveUp(firstHoles(layoutOf(f).holes()), int64(f.Start))
}

// MostOf returns the greatest value of a field.
func MostOf(f Field) (int64, int64) {
	if !ValidField(f) {
		return 0, ErrInvalid
	}
	return layoutOf(f).most(), OK
}

// EncodeField returns what is notched for a value.
func EncodeField(f Field, value int64) (Mask, int64) {
	if !ValidField(f) {
		return Mask{}, ErrInvalid
	}
	form := layoutOf(f)
	if value < 0 || value > form.most() {
		return Mask{}, ErrRange
	}
	return moveUp(form.encode(value), int64(f.Start)), OK
}

// DecodeField returns the value that is kept.
func DecodeField(f Field, m Mask) (int64, int64) {
	if !ValidField(f) || !ValidMask(m) {
		return 0, ErrInvalid
	}
	kept := MeetMasks(m, partOf(f))
	if kept == (Mask{}) {
		return 0, ErrNotFound
	}
	value, known := layoutOf(f).decode(moveDown(kept, int64(f.Start)))
	if !known {
		return 0, ErrProof
	}
	return value, OK
}

// PutField puts a value into a field of a card.
func PutField(c Card, f Field, value int64) (Card, int64) {
	if !ValidCard(c) {
		return Card{}, ErrInvalid
	}
	code, fault := EncodeField(f, value)
	if fault != OK {
		return Card{}, fault
	}
	c.Notches = JoinMasks(LessMask(c.Notches, partOf(f)), code)
	return c, OK
}

// ClearField empties a field of a card.
func ClearField(c Card, f Field) (Card, int64) {
	if !ValidCard(c) || !ValidField(f) {
		return Card{}, ErrInvalid
	}
	c.Notches = LessMask(c.Notches, partOf(f))
	return c, OK
}

// ValidScheme reports whether a scheme is valid.
func ValidScheme(list []Field) bool {
	if len(list) > MaxFields {
		return false
	}
	var taken Mask
	names := make(map[string]bool, len(list))
	for _, f := range list {
		if !ValidField(f) || names[f.Name] || MeetMasks(taken, partOf(f)) != (Mask{}) {
			return false
		}
		names[f.Name] = true
		taken = JoinMasks(taken, partOf(f))
	}
	return true
}

// FieldOfHole returns the field that has a hole.
func FieldOfHole(list []Field, hole int64) (int64, int64) {
	if !ValidScheme(list) {
		return 0, ErrInvalid
	}
	if !isHole(hole) {
		return 0, ErrRange
	}
	for i, f := range list {
		if IsWithin(oneHole(hole), partOf(f)) {
			return int64(i), OK
		}
	}
	return 0, ErrNotFound
}

// MakeCard returns the card with some values.
func MakeCard(list []Field, name string, values []int64) (Card, int64) {
	if !ValidScheme(list) {
		return Card{}, ErrInvalid
	}
	if !isName(name) || len(values) != len(list) {
		return Card{}, ErrRange
	}
	c := Card{Name: name}
	for i, value := range values {
		if value == emptyValue {
			continue
		}
		code, fault := EncodeField(list[i], value)
		if fault != OK {
			return Card{}, fault
		}
		c.Notches = JoinMasks(c.Notches, code)
	}
	return c, OK
}

// ValuesOf returns the values of all fields of a card.
func ValuesOf(list []Field, c Card) ([]int64, int64) {
	if !ValidScheme(list) || !ValidCard(c) {
		return nil, ErrInvalid
	}
	values := make([]int64, 0, len(list))
	for _, f := range list {
		value, fault := DecodeField(f, c.Notches)
		switch fault {
		case OK:
			values = append(values, value)
		case ErrNotFound:
			values = append(values, emptyValue)
		default:
			return nil, fault
		}
	}
	return values, OK
}

// CardText returns the text of a card.
func CardText(c Card) string {
	if !ValidCard(c) {
		return ""
	}
	text := []byte(c.Name)
	holes, _ := HolesIn(c.Notches)
	for _, hole := range holes {
		text = append(text, ' ')
		text = strconv.AppendInt(text, hole, 10)
	}
	return string(text)
}

// ReadCard returns the card with a text.
func ReadCard(text string) (Card, int64) {
	words := strings.Split(text, " ")
	c := Card{Name: words[0]}
	for _, word := range words[1:] {
		hole, err := strconv.ParseInt(word, 10, 64)
		if err != nil || !isHole(hole) {
			return Card{}, ErrSyntax
		}
		c.Notches = JoinMasks(c.Notches, oneHole(hole))
	}
	// A number with a sign or with zeros in front, and holes out of order or told twice, are not what CardText writes.
	if !ValidCard(c) || CardText(c) != text {
		return Card{}, ErrSyntax
	}
	return c, OK
}

// SchemeText returns the text of a scheme.
func SchemeText(list []Field) string {
	if !ValidScheme(list) {
		return ""
	}
	var text []byte
	for _, f := range list {
		text = append(text, f.Name...)
		text = append(text, ' ')
		text = append(text, kindWords[f.Kind]...)
		text = append(text, ' ')
		text = strconv.AppendInt(text, int64(f.Start), 10)
		text = append(text, ' ')
		text = strconv.AppendInt(text, int64(f.Size), 10)
		text = append(text, '\n')
	}
	return string(text)
}

// ReadScheme returns the scheme with a text.
func ReadScheme(text string) ([]Field, int64) {
	var list []Field
	for line := range strings.Lines(text) {
		f, known := readField(strings.TrimSuffix(line, "\n"))
		if !known {
			return nil, ErrSyntax
		}
		list = append(list, f)
	}
	// A last line without its end, and numbers with a sign or with zeros in front, are not what SchemeText writes.
	if !ValidScheme(list) || SchemeText(list) != text {
		return nil, ErrSyntax
	}
	return list, OK
}

// readField returns the field that a line tells of, valid or not, and whether it has the words of one.
func readField(line string) (Field, bool) {
	words := strings.Split(line, " ")
	if len(words) != 4 {
		return Field{}, false
	}
	kind, known := kindOfWord(words[1])
	start, startErr := strconv.ParseInt(words[2], 10, 16)
	size, sizeErr := strconv.ParseInt(words[3], 10, 16)
	if !known || startErr != nil || sizeErr != nil {
		return Field{}, false
	}
	return Field{Name: words[0], Kind: kind, Start: int16(start), Size: int16(size)}, true
}

// kindOfWord returns the kind that a word in a text stands for.
func kindOfWord(word string) (int8, bool) {
	for kind := range int8(len(kindWords)) {
		if kindWords[kind] == word {
			return kind, true
		}
	}
	return 0, false
}
