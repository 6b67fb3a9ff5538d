package whole

import (
	"math"
	"math/big"
	"math/rand"
	"testing"

	"planes/natural"
)

func drawn(r *rand.Rand) Whole {
	w := Of(r.Int63() >> r.Intn(64))
	if r.Intn(3) == 0 {
		w = w.Times(Of(r.Int63()))
	}
	if r.Intn(2) == 0 {
		w = w.Turned()
	}
	return w
}

func toBig(t *testing.T, w Whole) *big.Int {
	t.Helper()
	value, ok := new(big.Int).SetString(w.String(), 10)
	if !ok || value.String() != w.String() {
		t.Fatalf("%s is not as a whole is written", w)
	}
	return value
}

func TestAgainstLibrary(t *testing.T) {
	r := rand.New(rand.NewSource(5))
	for range 30000 {
		a, b := drawn(r), drawn(r)
		if r.Intn(10) == 0 {
			b = a.Turned()
		}
		x, y := toBig(t, a), toBig(t, b)
		for _, c := range []struct {
			what string
			got  Whole
			want *big.Int
		}{
			{"Plus", a.Plus(b), new(big.Int).Add(x, y)},
			{"Minus", a.Minus(b), new(big.Int).Sub(x, y)},
			{"Times", a.Times(b), new(big.Int).Mul(x, y)},
			{"Turned", a.Turned(), new(big.Int).Neg(x)},
			{"Size", OfNatural(a.Size()), new(big.Int).Abs(x)},
		} {
			if toBig(t, c.got).Cmp(c.want) != 0 {
				t.Fatalf("%s of %s and %s = %s, want %s", c.what, a, b, c.got, c.want)
			}
		}
		if a.Sign() != x.Sign() {
			t.Fatalf("Sign of %s = %d", a, a.Sign())
		}
		if got := a.Compare(b); big.NewInt(int64(got)).Sign() != x.Cmp(y) {
			t.Fatalf("Compare of %s and %s = %d", a, b, got)
		}
		if divisor := new(big.Int).Abs(y); divisor.Sign() > 0 {
			got, want := a.FloorOver(b.Size()), new(big.Int).Div(x, divisor)
			if toBig(t, got).Cmp(want) != 0 {
				t.Fatalf("FloorOver of %s and %s = %s, want %s", a, divisor, got, want)
			}
			rest, left := a.RestOver(b.Size()), new(big.Int).Mod(x, divisor)
			if toBig(t, OfNatural(rest)).Cmp(left) != 0 {
				t.Fatalf("RestOver of %s and %s = %s, want %s", a, divisor, rest, left)
			}
		}
	}
}

func TestOf(t *testing.T) {
	for _, n := range []int64{0, 1, -1, math.MaxInt64, math.MinInt64} {
		if got := Of(n); toBig(t, got).Cmp(big.NewInt(n)) != 0 || got.Sign() != big.NewInt(n).Sign() {
			t.Errorf("Of(%d) = %s", n, got)
		}
	}
	if OfNatural(natural.Of(7)).String() != "7" {
		t.Error("OfNatural(7) is not 7")
	}
}

func TestOneZeroOnly(t *testing.T) {
	minusZero, ok := Parse("-000", 40)
	if !ok {
		t.Fatal("-000 is refused")
	}
	for _, zero := range []Whole{{}, Of(0), minusZero, Of(0).Turned(), Of(-3).Plus(Of(3)), Of(-3).Times(Of(0))} {
		if zero.Sign() != 0 || zero.String() != "0" || zero.Compare(Whole{}) != 0 {
			t.Errorf("a 0 is %s with the sign %d", zero, zero.Sign())
		}
	}
}

func TestParse(t *testing.T) {
	for text, want := range map[string]string{"0": "0", "-0": "0", "007": "7", "-007": "-7", "-12345678901234567890": "-12345678901234567890"} {
		if got, ok := Parse(text, 20); !ok || got.String() != want {
			t.Errorf("Parse(%q) = %s, %v", text, got, ok)
		}
	}
	for _, text := range []string{"", "-", "--1", "+1", "1-", "- 1", "1/1", "000000000000000000000", "-123456789012345678901"} {
		if got, ok := Parse(text, 20); ok {
			t.Errorf("Parse(%q) = %s", text, got)
		}
	}
}
