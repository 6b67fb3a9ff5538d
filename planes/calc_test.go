package planes_test

import (
	"math"
	"math/big"
	"math/rand"
	"regexp"
	"strings"
	"sync"
	"testing"

	"planes/api"
	"planes/planes"
)

type calcCase struct {
	op   int
	a, b string
	want string
}

// known: the document's examples first, then the edges of each operation.
func known() []calcCase {
	nines := strings.Repeat("9", api.MaxDigits)
	ones := strings.Repeat("1", api.MaxDigits)
	return []calcCase{
		{api.Plus, "1/2", "1/3", "5/6"},
		{api.Over, "-6", "4", "-3/2"},
		{api.Floor, "-3/2", "0", "-2"},
		{api.Less, "-1", "02/4", "1"},
		{api.Times, "1/2", "2", "1"},

		{api.Plus, "-0", "0", "0"},
		{api.Plus, "-1/2", "1/2", "0"},
		{api.Plus, "1/6", "1/3", "1/2"},
		{api.Plus, nines, "1", "1" + strings.Repeat("0", api.MaxDigits)},
		{api.Plus, "1/" + nines, "1/" + nines, "2/" + nines},
		{api.Plus, "4294967295", "1", "4294967296"},
		{api.Minus, "3", "5", "-2"},
		{api.Minus, "-3", "-5", "2"},
		{api.Minus, "18446744073709551616", "1", "18446744073709551615"},
		{api.Minus, "1/3", "1/2", "-1/6"},
		{api.Times, "-2/3", "-3/2", "1"},
		{api.Times, "-5", "0/9", "0"},
		{api.Times, nines, nines, strings.Repeat("9", 39) + "8" + strings.Repeat("0", 39) + "1"},
		{api.Times, "-1/" + nines, "1/" + nines, "-1/" + strings.Repeat("9", 39) + "8" + strings.Repeat("0", 39) + "1"},
		{api.Over, "0", "-7", "0"},
		{api.Over, "2", "-4", "-1/2"},
		{api.Over, "-2/3", "-4/9", "3/2"},
		{api.Over, nines, ones, "9"},
		{api.Over, ones, nines, "1/9"},
		{api.Floor, "7/2", "1/3", "3"},
		{api.Floor, "-7/2", "0", "-4"},
		{api.Floor, "-8/2", "0", "-4"},
		{api.Floor, "-1/" + nines, "0", "-1"},
		{api.Floor, "1/" + nines, "0", "0"},
		{api.Floor, "-0/3", "0", "0"},
		{api.Less, "1/3", "1/2", "1"},
		{api.Less, "1/2", "1/3", "0"},
		{api.Less, "2/4", "1/2", "0"},
		{api.Less, "-0", "0", "0"},
		{api.Less, "-1/2", "-1/3", "1"},
		{api.Less, "-1/3", "-1/2", "0"},
		{api.Less, "-1", "0", "1"},
		{api.Less, "0", "-1", "0"},

		{api.Plus, strings.Repeat("0", api.MaxDigits), "-" + strings.Repeat("0", 39) + "7/" + strings.Repeat("0", 38) + "14", "-1/2"},
	}
}

func TestCalcKnown(t *testing.T) {
	for _, c := range known() {
		if got, e := planes.Calc(c.op, c.a, c.b); got != c.want || e != api.OK {
			t.Errorf("P3: Calc(%d, %s, %s) = %q, %d, want %q", c.op, c.a, c.b, got, e, c.want)
		}
	}
}

func TestCalcErrorsInOrder(t *testing.T) {
	for _, c := range []struct {
		op   int
		a, b string
		want api.Errno
	}{
		{0, "1", "1", api.ErrOp},
		{7, "1", "1", api.ErrOp},
		{-1, "1", "1", api.ErrOp},
		{math.MaxInt, "1", "1", api.ErrOp},
		{math.MinInt, "1", "1", api.ErrOp},
		{0, "x", "0", api.ErrOp},
		{api.Over, "x", "0", api.ErrNumber},
		{api.Over, "1", "1/0", api.ErrNumber},
		{api.Floor, "1", "", api.ErrNumber},
		{api.Plus, "1/0", "1", api.ErrNumber},
		{api.Over, "1", "0/5", api.ErrZero},
		{api.Over, "0", "0", api.ErrZero},
		{api.Over, "1/2", "-000", api.ErrZero},
	} {
		if got, e := planes.Calc(c.op, c.a, c.b); got != "" || e != c.want {
			t.Errorf("P1, P3: Calc(%d, %q, %q) = %q, %d, want error %d", c.op, c.a, c.b, got, e, c.want)
		}
	}
}

// refused says by itself, apart from the program, which texts are no numbers.
func refused(text string) bool {
	shape := regexp.MustCompile(`^-?[0-9]{1,40}(/[0-9]{1,40})?$`)
	_, lower, parted := strings.Cut(text, "/")
	return !shape.MatchString(text) || parted && strings.Trim(lower, "0") == ""
}

func checkText(t *testing.T, text string) {
	t.Helper()
	want := api.OK
	if refused(text) {
		want = api.ErrNumber
	}
	for _, op := range []int{api.Plus, api.Floor} {
		got, e := planes.Calc(op, text, "1")
		if e != want || (got == "") != (e != api.OK) {
			t.Errorf("P3: Calc(%d, %.60q, 1) = %.60q, %d, want error %d", op, text, got, e, want)
		}
		got, e = planes.Calc(op, "1", text)
		if e != want || (got == "") != (e != api.OK) {
			t.Errorf("P3: Calc(%d, 1, %.60q) = %.60q, %d, want error %d", op, text, got, e, want)
		}
	}
}

// TestCalcShortTexts goes through every short text of the bytes that matter.
func TestCalcShortTexts(t *testing.T) {
	const letters = "019-/+ "
	texts := []string{""}
	for range 5 {
		var longer []string
		for _, text := range texts {
			checkText(t, text)
			for _, letter := range letters {
				longer = append(longer, text+string(letter))
			}
		}
		texts = longer
	}
}

func TestCalcTexts(t *testing.T) {
	most := strings.Repeat("7", api.MaxDigits)
	for _, text := range []string{
		most, "-" + most, most + "/" + most, "-" + most + "/" + most, "1/" + most, most + "/1",
		most + "7", "-" + most + "7", most + "7/1", "1/" + most + "7", most + "/" + most + "7",
		strings.Repeat("0", 40), strings.Repeat("0", 41), "1/" + strings.Repeat("0", 40) + "1", "1/" + strings.Repeat("0", 39) + "1",
		"1/" + strings.Repeat("0", 40), "1/-0", "1.5", "1e3", "0x10", "1_000", "1,0", "1\n", "\n1", "1\x00", "\x00", "\xff", "\t1",
		"1\r", "١", "½", "−1", "1⁄2", ":", "1:", "1/:", "1/.", "Inf", "NaN", "a/b",
		strings.Repeat("9", 1<<21), "1/" + strings.Repeat("9", 1<<21), strings.Repeat("-", 1<<21), strings.Repeat("/", 1<<21), strings.Repeat("1/", 1<<20),
	} {
		checkText(t, text)
	}
}

func someNumber(r *rand.Rand) string {
	digits := func() string {
		text := make([]byte, 1+r.Intn(api.MaxDigits))
		for i := range text {
			text[i] = "0123456789099"[r.Intn(13)]
		}
		return string(text)
	}
	text := digits()
	if r.Intn(2) == 0 {
		text = "-" + text
	}
	if lower := digits(); r.Intn(2) == 0 && strings.Trim(lower, "0") != "" {
		text += "/" + lower
	}
	return text
}

// ratOf is the number by the library, which would read noughts ahead as it
// pleases: so both sides are read as decimals, one by one.
func ratOf(text string) *big.Rat {
	above, beneath, parted := strings.Cut(text, "/")
	upper, _ := new(big.Int).SetString(above, 10)
	lower := big.NewInt(1)
	if parted {
		lower, _ = lower.SetString(beneath, 10)
	}
	return new(big.Rat).SetFrac(upper, lower)
}

func byLibrary(op int, a, b string) string {
	x, y := ratOf(a), ratOf(b)
	want := new(big.Rat)
	switch op {
	case api.Plus:
		want.Add(x, y)
	case api.Minus:
		want.Sub(x, y)
	case api.Times:
		want.Mul(x, y)
	case api.Over:
		if y.Sign() == 0 {
			return ""
		}
		want.Quo(x, y)
	case api.Floor:
		want.SetInt(new(big.Int).Div(x.Num(), x.Denom()))
	case api.Less:
		if x.Cmp(y) < 0 {
			want.SetInt64(1)
		}
	}
	return want.RatString()
}

func TestCalcAgainstLibrary(t *testing.T) {
	r := rand.New(rand.NewSource(7))
	for range 5000 {
		a, b := someNumber(r), someNumber(r)
		for op := api.Plus; op <= api.Less; op++ {
			if got, e := planes.Calc(op, a, b); got != byLibrary(op, a, b) || (e == api.OK) != (got != "") {
				t.Fatalf("P3: Calc(%d, %s, %s) = %q, %d, want %q", op, a, b, got, e, byLibrary(op, a, b))
			}
		}
	}
}

// TestCalcReadsWhatItWrites: what is short enough to be read again is the
// same number, in the same text.
func TestCalcReadsWhatItWrites(t *testing.T) {
	r := rand.New(rand.NewSource(8))
	for range 2000 {
		written, _ := planes.Calc(api.Plus, someNumber(r), "0")
		if again, e := planes.Calc(api.Plus, written, "0"); again != written || e != api.OK {
			t.Fatalf("P3: %s is written again as %s, %d", written, again, e)
		}
	}
}

// TestCalcAlone: the answers are the same in another order, and with other
// calls under way.
func TestCalcAlone(t *testing.T) {
	cases := known()
	var group sync.WaitGroup
	for worker := range 8 {
		group.Go(func() {
			for i := range 20 * len(cases) {
				c := cases[(i*7+worker)%len(cases)]
				if got, e := planes.Calc(c.op, c.a, c.b); got != c.want || e != api.OK {
					t.Errorf("P2: Calc(%d, %s, %s) = %q, %d, want %q", c.op, c.a, c.b, got, e, c.want)
					return
				}
			}
		})
	}
	group.Wait()
}

func FuzzCalc(f *testing.F) {
	f.Add(1, "1/2", "1/3")
	f.Add(4, "1", "0/5")
	f.Add(5, "-3/2", "")
	f.Add(9, "x", "\xff")
	f.Fuzz(func(t *testing.T, op int, a, b string) {
		got, e := planes.Calc(op, a, b)
		want := api.OK
		switch {
		case op < api.Plus || op > api.Less:
			want = api.ErrOp
		case refused(a) || refused(b):
			want = api.ErrNumber
		case op == api.Over && ratOf(b).Sign() == 0:
			want = api.ErrZero
		}
		text := ""
		if want == api.OK {
			text = byLibrary(op, a, b)
		}
		if got != text || e != want {
			t.Errorf("Calc(%d, %q, %q) = %q, %d, want %q, %d", op, a, b, got, e, text, want)
		}
	})
}
