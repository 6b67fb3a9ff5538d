package natural

import (
	"slices"
	"strconv"
	"strings"
)

// Texts are gone through in pieces of nine decimal digits: the most that one
// digit of 32 bits holds for certain.
const (
	pieceDigits = 9
	pieceBase   = 1000000000
)

// Parse reads decimal digits, at least 1 and at most mostDigits, noughts
// ahead among them; false, if the text is not of that kind.
func Parse(text string, mostDigits int) (Natural, bool) {
	if len(text) == 0 || len(text) > mostDigits || !allDigits(text) {
		return nil, false
	}
	text = strings.TrimLeft(text, "0")
	n := make(Natural, 0, len(text)/pieceDigits+1)
	for len(text) > 0 {
		size := (len(text)-1)%pieceDigits + 1
		n = timesPieceBase(n, piece(text[:size]))
		text = text[size:]
	}
	return n, true
}

func allDigits(text string) bool {
	for i := range len(text) {
		if text[i] < '0' || text[i] > '9' {
			return false
		}
	}
	return true
}

func piece(text string) uint32 {
	var value uint32
	for i := range len(text) {
		value = value*10 + uint32(text[i]-'0')
	}
	return value
}

// timesPieceBase works in place, for the one who is still making n.
func timesPieceBase(n Natural, more uint32) Natural {
	carry := uint64(more)
	for i := range n {
		carry += uint64(n[i]) * pieceBase
		n[i] = uint32(carry)
		carry >>= digitBits
	}
	if carry > 0 {
		n = append(n, uint32(carry))
	}
	return n
}

// String is the number in decimal digits, without noughts ahead.
func (n Natural) String() string {
	if n.IsZero() {
		return "0"
	}
	pieces := n.pieces()
	var text strings.Builder
	for i := len(pieces) - 1; i >= 0; i-- {
		digits := strconv.FormatUint(uint64(pieces[i]), 10)
		if i < len(pieces)-1 {
			text.WriteString(strings.Repeat("0", pieceDigits-len(digits)))
		}
		text.WriteString(digits)
	}
	return text.String()
}

// pieces are the digits to the base pieceBase, the least first.
func (n Natural) pieces() []uint32 {
	var pieces []uint32
	left := slices.Clone(n)
	for len(left) > 0 {
		pieces = append(pieces, shortDivide(left, pieceBase))
		left = trim(left)
	}
	return pieces
}
