package fraction

import (
	"math/big"
	"math/rand"
	"strconv"
	"strings"
	"testing"

	"planes/whole"
)

func drawn(t *testing.T, r *rand.Rand) (Fraction, *big.Rat) {
	t.Helper()
	upper := strconv.FormatInt(r.Int63()>>r.Intn(64)-r.Int63()>>r.Intn(64), 10)
	text := upper
	if r.Intn(3) > 0 {
		text += "/" + strconv.FormatInt(1+r.Int63()>>(1+r.Intn(62)), 10)
	}
	f, ok := Parse(text, 40)
	want, known := new(big.Rat).SetString(text)
	if !ok || !known {
		t.Fatalf("Parse(%s): %v, %v", text, ok, known)
	}
	return f, want
}

func TestAgainstLibrary(t *testing.T) {
	r := rand.New(rand.NewSource(6))
	for range 30000 {
		a, x := drawn(t, r)
		b, y := drawn(t, r)
		if r.Intn(10) == 0 {
			b, y = a.Turned(), new(big.Rat).Neg(x)
		}
		type trial struct {
			what string
			got  Fraction
			want *big.Rat
		}
		trials := []trial{
			{"itself", a, x},
			{"Turned", a.Turned(), new(big.Rat).Neg(x)},
			{"Plus", a.Plus(b), new(big.Rat).Add(x, y)},
			{"Minus", a.Minus(b), new(big.Rat).Sub(x, y)},
			{"Times", a.Times(b), new(big.Rat).Mul(x, y)},
			{"Floor", Of(a.Floor()), new(big.Rat).SetInt(new(big.Int).Div(x.Num(), x.Denom()))},
		}
		if y.Sign() != 0 {
			trials = append(trials, trial{"Over", a.Over(b), new(big.Rat).Quo(x, y)})
		}
		for _, c := range trials {
			if c.got.String() != c.want.RatString() || c.got.IsWhole() != c.want.IsInt() || c.got.Sign() != c.want.Sign() {
				t.Fatalf("%s of %s and %s = %s, want %s", c.what, a, b, c.got, c.want.RatString())
			}
		}
		if got := a.Compare(b); big.NewInt(int64(got)).Sign() != x.Cmp(y) {
			t.Fatalf("Compare of %s and %s = %d", a, b, got)
		}
	}
}

// TestSmallAgainstLibrary: among small numbers lower parts share divisors in
// every way, with each other and with what comes of them.
func TestSmallAgainstLibrary(t *testing.T) {
	var all []Fraction
	var same []*big.Rat
	for upper := int64(-9); upper <= 9; upper++ {
		for lower := int64(1); lower <= 12; lower++ {
			text := strconv.FormatInt(upper, 10) + "/" + strconv.FormatInt(lower, 10)
			f, ok := Parse(text, 40)
			if !ok {
				t.Fatalf("Parse refuses %s", text)
			}
			all, same = append(all, f), append(same, big.NewRat(upper, lower))
		}
	}
	for i, a := range all {
		for j, b := range all {
			x, y := same[i], same[j]
			got := []Fraction{a.Plus(b), a.Minus(b), a.Times(b)}
			want := []*big.Rat{new(big.Rat).Add(x, y), new(big.Rat).Sub(x, y), new(big.Rat).Mul(x, y)}
			if y.Sign() != 0 {
				got, want = append(got, a.Over(b)), append(want, new(big.Rat).Quo(x, y))
			}
			for k := range got {
				if got[k].String() != want[k].RatString() || got[k].IsWhole() != want[k].IsInt() {
					t.Fatalf("operation %d of %s and %s = %s, want %s", k, a, b, got[k], want[k].RatString())
				}
			}
		}
	}
}

// TestLongSum: what adds up to a whole by way of long lower parts is known as
// whole in the end.
func TestLongSum(t *testing.T) {
	var sum Fraction
	one := Of(whole.Of(1))
	for lower := int64(1); lower < 1500; lower++ {
		sum = sum.Plus(one.Over(Of(whole.Of(lower * (lower + 1)))))
	}
	if sum.String() != "1499/1500" {
		t.Errorf("the sum is %.60s", sum)
	}
	var there, back Fraction
	for lower := int64(1); lower < 400; lower++ {
		there = there.Plus(one.Over(Of(whole.Of(lower))))
	}
	back = there
	for lower := int64(1); lower < 400; lower++ {
		back = back.Minus(one.Over(Of(whole.Of(lower))))
	}
	if len(there.String()) < 300 || back.String() != "0" || !back.IsWhole() {
		t.Errorf("there %.60s, and back %.60s", there, back)
	}
}

func TestZeroFraction(t *testing.T) {
	half, _ := Parse("1/2", 40)
	var zero Fraction
	if zero.String() != "0" || !zero.IsWhole() || zero.Sign() != 0 {
		t.Errorf("the zero Fraction is %s", zero)
	}
	if sum := zero.Plus(half); sum.String() != "1/2" {
		t.Errorf("0 + 1/2 = %s", sum)
	}
	if gap := half.Minus(half); gap.String() != "0" || gap.Compare(zero) != 0 || !gap.IsWhole() {
		t.Errorf("1/2 - 1/2 = %s", gap)
	}
	if product := half.Times(Of(whole.Of(2))); product.String() != "1" || !product.IsWhole() {
		t.Errorf("1/2 * 2 = %s", product)
	}
}

func TestParse(t *testing.T) {
	for text, want := range map[string]string{
		"0": "0", "-0": "0", "-0/3": "0", "00/7": "0", "02/4": "1/2", "-6/4": "-3/2",
		"7/1": "7", "7/001": "7", "-10/5": "-2", "3/2": "3/2", "12345/12345": "1",
	} {
		if got, ok := Parse(text, 5); !ok || got.String() != want {
			t.Errorf("Parse(%q) = %s, %v, want %s", text, got, ok, want)
		}
	}
	for _, text := range []string{
		"", "-", "/", "1/", "/1", "-/1", "1/0", "0/0", "1/000", "1/-1", "-1/-1", "1//2", "1/2/3", "1 /2", "1/ 2", "1/+2",
		"123456", "000001", "1/123456", "1/000001", "-123456/1",
	} {
		if got, ok := Parse(text, 5); ok || got.String() != "0" {
			t.Errorf("Parse(%q) = %s, %v", text, got, ok)
		}
	}
}

// TestLong: fractions as long as a log may have them.
func TestLong(t *testing.T) {
	upper, lower := strings.Repeat("9", 9000)+"0", strings.Repeat("3", 9000)+"0"
	if got, ok := Parse(upper+"/"+lower, 9001); !ok || got.String() != "3" {
		t.Errorf("a long fraction of the value 3 is read as %.20s, %v", got, ok)
	}
	coprime := "1" + strings.Repeat("0", 9000) + "/" + strings.Repeat("7", 9000)
	if got, ok := Parse(coprime, 9001); !ok || got.String() != coprime {
		t.Error("a long fraction in lowest terms is not written as it was read")
	}
}
