package natural

import (
	"math/big"
	"math/rand"
	"slices"
	"strings"
	"testing"
)

// edgeDigits are those at which carries, borrows and guesses go wrong first.
var edgeDigits = []uint32{0, 1, 2, 0x7fffffff, 0x80000000, 0x80000001, 0xfffffffe, 0xffffffff}

func drawn(r *rand.Rand, most int) Natural {
	n := make(Natural, r.Intn(most+1))
	for i := range n {
		n[i] = r.Uint32()
		if r.Intn(3) > 0 {
			n[i] = edgeDigits[r.Intn(len(edgeDigits))]
		}
	}
	return trim(n)
}

func toBig(n Natural) *big.Int {
	value := new(big.Int)
	for _, digit := range slices.Backward(n) {
		value.Lsh(value, 32)
		value.Or(value, big.NewInt(int64(digit)))
	}
	return value
}

func expect(t *testing.T, what string, got Natural, want *big.Int, from ...Natural) {
	t.Helper()
	if toBig(got).Cmp(want) != 0 {
		t.Fatalf("%s of %v = %v, want %v", what, from, got, want)
	}
	if len(got) > 0 && got[len(got)-1] == 0 {
		t.Fatalf("%s of %v: the highest digit is 0", what, from)
	}
}

func TestAgainstLibrary(t *testing.T) {
	r := rand.New(rand.NewSource(3))
	for range 60000 {
		a, b := drawn(r, 9), drawn(r, 6)
		beforeA, beforeB := slices.Clone(a), slices.Clone(b)
		x, y := toBig(a), toBig(b)
		expect(t, "Plus", a.Plus(b), new(big.Int).Add(x, y), a, b)
		expect(t, "Times", a.Times(b), new(big.Int).Mul(x, y), a, b)
		expect(t, "Apart", a.Apart(b), new(big.Int).Abs(new(big.Int).Sub(x, y)), a, b)
		expect(t, "CommonDivisor", a.CommonDivisor(b), new(big.Int).GCD(nil, nil, x, y), a, b)
		if got := a.Compare(b); got != x.Cmp(y) {
			t.Fatalf("Compare of %v and %v = %d", a, b, got)
		}
		if !b.IsZero() {
			quotient, rest := a.Over(b)
			expect(t, "Over", quotient, new(big.Int).Quo(x, y), a, b)
			expect(t, "rest of Over", rest, new(big.Int).Rem(x, y), a, b)
		}
		if !slices.Equal(a, beforeA) || !slices.Equal(b, beforeB) {
			t.Fatalf("written into: %v, %v", beforeA, beforeB)
		}
	}
}

// TestDivideEdges: divisions in which a digit is guessed too great, and one
// that must be added back.
func TestDivideEdges(t *testing.T) {
	for _, c := range []struct{ a, b Natural }{
		{Natural{3, 0, 0x80000000}, Natural{1, 0, 0x20000000}},
		{Natural{0, 0, 0x80000000, 0x7fffffff}, Natural{1, 0, 0x80000000}},
		{Natural{0, 0xfffffffe, 0x80000000}, Natural{0xffffffff, 0x80000000}},
		{Natural{0, 0, 0, 1}, Natural{0xffffffff, 0xffffffff}},
		{Natural{0xffffffff, 0xffffffff, 0xffffffff}, Natural{0xffffffff, 0xffffffff}},
	} {
		quotient, rest := c.a.Over(c.b)
		wantQuotient, wantRest := new(big.Int).QuoRem(toBig(c.a), toBig(c.b), new(big.Int))
		expect(t, "Over", quotient, wantQuotient, c.a, c.b)
		expect(t, "rest of Over", rest, wantRest, c.a, c.b)
	}
}

func TestDivideByZero(t *testing.T) {
	for _, n := range []Natural{nil, {7}, {1, 2, 3}} {
		if quotient, rest := n.Over(nil); !quotient.IsZero() || rest.Compare(n) != 0 {
			t.Errorf("%v over 0 = %v, %v", n, quotient, rest)
		}
	}
}

func TestOf(t *testing.T) {
	for _, n := range []uint64{0, 1, 1<<32 - 1, 1 << 32, 1<<64 - 1} {
		expect(t, "Of", Of(n), new(big.Int).SetUint64(n))
		if back, ok := Of(n).Uint64(); !ok || back != n {
			t.Errorf("Uint64 of %d = %d, %v", n, back, ok)
		}
	}
	for _, n := range []Natural{{0, 0, 1}, {1, 0, 0, 1}} {
		if back, ok := n.Uint64(); ok || back != 0 {
			t.Errorf("Uint64 of %s = %d, %v", n, back, ok)
		}
	}
	if !Of(1).IsOne() || Of(0).IsOne() || Of(1<<32).IsOne() || !Of(0).IsZero() || Of(1).IsZero() {
		t.Error("IsOne or IsZero is wrong")
	}
}

func TestText(t *testing.T) {
	r := rand.New(rand.NewSource(4))
	for range 20000 {
		n := drawn(r, 12)
		text := toBig(n).String()
		if n.String() != text {
			t.Fatalf("String = %s, want %s", n, text)
		}
		back, ok := Parse(strings.Repeat("0", r.Intn(20))+text, 200)
		if !ok {
			t.Fatalf("Parse refuses %s", text)
		}
		expect(t, "Parse", back, toBig(n), n)
	}
	for size := range 40 {
		text := "1" + strings.Repeat("0", size)
		if n, ok := Parse(text, size+1); !ok || n.String() != text {
			t.Errorf("Parse(%s) = %v, %v", text, n, ok)
		}
	}
}

func TestParseRefuses(t *testing.T) {
	for _, text := range []string{"", "-1", "+1", " 1", "1 ", "1_0", "0x1", "1/2", "a", ":", "\xff", "١", "12345678x", "1234567890-"} {
		if n, ok := Parse(text, 40); ok || n != nil {
			t.Errorf("Parse(%q) = %v, %v", text, n, ok)
		}
	}
	if _, ok := Parse("0001", 3); ok {
		t.Error("noughts ahead count as digits")
	}
}

// TestLong: numbers as long as a log may have them.
func TestLong(t *testing.T) {
	text := strings.Repeat("9876543210", 2000)
	n, ok := Parse(text, len(text))
	if !ok || n.String() != text {
		t.Fatal("a number of 20000 digits is not read and written back")
	}
	square := n.Times(n)
	if quotient, rest := square.Plus(Of(5)).Over(n); quotient.Compare(n) != 0 || rest.Compare(Of(5)) != 0 {
		t.Fatal("a number of 40000 digits is not divided rightly")
	}
}
