package rat_test

import (
	"math/big"
	"math/rand"
	"slices"
	"strconv"
	"strings"
	"testing"

	"quincunx/api"
	"quincunx/rat"
	"quincunx/zint"
)

// textOf is what the number x is printed as.
func textOf(x *big.Rat) string {
	if x.IsInt() {
		return x.Num().Text(10)
	}
	return x.Num().Text(10) + "/" + x.Denom().Text(10)
}

// P7.2: Print of numbers that are easily told.
func TestPrint(t *testing.T) {
	for _, c := range []struct {
		n, d int64
		want string
	}{
		{1, 2, "1/2"}, {-1, 2, "-1/2"}, {1, -2, "-1/2"}, {-1, -2, "1/2"}, {2, 4, "1/2"}, {6, 4, "3/2"}, {5, 1, "5"}, {-5, 1, "-5"}, {5, -1, "-5"},
		{10, 5, "2"}, {-10, 5, "-2"}, {0, 1, "0"}, {0, -7, "0"}, {7, 0, "0"}, {-7, 0, "0"}, {0, 0, "0"}, {100, 10, "10"}, {10, 100, "1/10"}, {-1 << 63, 3, "-9223372036854775808/3"},
		{3, -1 << 63, "-3/9223372036854775808"}, {-1 << 63, -1 << 63, "1"},
	} {
		if got := rat.Print(over(c.n, c.d)); got != c.want {
			t.Error(c, got)
		}
	}
}

// P7.2: Print of samples, and of forms of them.
func TestPrintOfSamples(t *testing.T) {
	for _, a := range append(mixed(), noughts()...) {
		for _, b := range append(forms(a), a) {
			if got, want := rat.Print(b), textOf(numberOf(a)); got != want {
				t.Fatalf("%.60q, not %.60q", got, want)
			}
		}
	}
}

// powerOfTen is 10 to the n, and x.
func powerOfTen(n, x int64) *big.Int {
	power := new(big.Int).Exp(big.NewInt(10), big.NewInt(n), nil)
	return power.Add(power, big.NewInt(x))
}

// P7.2: MaxDigits is no bound of Print.
func TestPrintOfVeryManyDigits(t *testing.T) {
	long := new(big.Rat).SetFrac(powerOfTen(api.MaxDigits+5, 1), powerOfTen(api.MaxDigits+3, 0))
	for _, x := range []*big.Rat{long, new(big.Rat).Neg(long), new(big.Rat).Inv(long)} {
		if got := rat.Print(ofBig(x)); got != textOf(x) {
			t.Errorf("%d digits, %.60q", len(got), got)
		}
	}
}

func checkParse(t *testing.T, s string, want *big.Rat) {
	t.Helper()
	got, ok := rat.Parse(s)
	if !ok {
		t.Fatalf("Parse of %.60q is refused", s)
	}
	expect(t, "Parse", got, want)
}

func checkNone(t *testing.T, s string) {
	t.Helper()
	got, ok := rat.Parse(s)
	if ok {
		t.Errorf("Parse of %.60q: %.60s", s, numberOf(got))
		return
	}
	expectNone(t, "Parse", got, ok)
}

// P7.2: all texts of two small numbers: those of normal fractions are read.
func TestParseOfSmallNumbers(t *testing.T) {
	for n := int64(-40); n <= 40; n++ {
		text := strconv.FormatInt(n, 10)
		checkParse(t, text, big.NewRat(n, 1))
		for d := int64(-40); d <= 40; d++ {
			both := text + "/" + strconv.FormatInt(d, 10)
			if d < 2 || big.NewRat(n, max(d, 1)).Denom().Int64() != d {
				checkNone(t, both)
			} else {
				checkParse(t, both, big.NewRat(n, d))
			}
		}
	}
}

// P7.2: what is printed is read, and the other way round.
func TestPrintedIsRead(t *testing.T) {
	source := rand.New(rand.NewSource(73))
	list := append(mixed(), noughts()...)
	for range 1000 {
		list = append(list, drawnAny(source, 6))
	}
	for _, a := range list {
		checkParse(t, rat.Print(a), numberOf(a))
	}
	for _, s := range []string{"0", "1", "-1", "5/6", "-5/6", "1/2", "-1/18446744073709551616", "18446744073709551616/3", "-10", "1/10", "10/7", "340282366920938463463374607431768211455/2"} {
		if a, ok := rat.Parse(s); !ok || rat.Print(a) != s {
			t.Error(s, a, ok)
		}
	}
}

// wrong holds texts that no normal fraction is printed as.
func wrong() []string {
	list := []string{
		"", " ", "/", "//", "-", "--", "-/", "/-", "-/-", "+", ".", "1/", "-1/", "0/", "/1", "/2", "-/2", "/0", "1//2", "1/2/", "1/2/3", "/1/2", "1/2//3", "1/2/1",
		"1/1", "-1/1", "0/1", "-0/1", "7/1", "-7/1", "10/1", "0/2", "0/5", "-0/5", "0/0", "1/0", "-1/0", "5/00", "-0", "--0", "-00", "00", "000",
		"2/4", "-2/4", "6/4", "2/2", "-2/2", "10/5", "3/9", "9/3", "100/10", "12/18", "18446744073709551616/2", "18446744073709551615/3", "6/18446744073709551616",
		"1/-2", "-1/-2", "1/--2", "--1/2", "---1/2", "+1/2", "1/+2", "+1", "+0", "-+1", "+-1", "1-/2", "1/2-", "1/-1", "1-2", "1-", "-1-", "1/-", "-1/-",
		"01/2", "-01/2", "1/02", "-1/02", "01/02", "00/2", "00/1", "1/01", "1/00", "01", "-01", "007", "-007/2",
		" 1/2", "1/2 ", "1 /2", "1/ 2", "- 1/2", " -1/2", "1 / 2", "\t1/2", "1/2\n", "1/\n2", "1\r/2", " 1", "1 ", "1 1", "1/2 3", "\x001/2", "1/2\x00", "1\x00/2",
		"a", "a/2", "1/a", "1a/2", "1/2a", "0x1/2", "1/0x2", "1e2", "1e2/3", "1/2e3", "1.0", "1.5/2", "1/2.0", "1,000", "1,000/3", "1_0/3", "3/1_0", "inf", "NaN",
		"1\\2", "1:2", "1|2", "(1/2)", "[1/2]", "1/2;", "\u22121/2", "1\u20442", "1\u22152", "\u00bd", "\u0661/\u0662", "1/\uff12", "\uff11/2", "\xff", "1/\xff", "\xff/2", "1/2\xff",
	}
	return append(list, strings.Repeat("1/", 100)+"2", strings.Repeat("/", 1000), "1/"+strings.Repeat("0", 100), strings.Repeat("0", 100)+"1/2", strings.Repeat("-", 100)+"1/2")
}

// P7.2: texts that no normal fraction is printed as.
func TestParseOfWrongTexts(t *testing.T) {
	for _, s := range wrong() {
		checkNone(t, s)
	}
}

// P7.2: each byte at each place of a text.
func TestParseOfEachByte(t *testing.T) {
	for _, s := range []string{"31/41", "-31/41", "7", "-7", "31/6"} {
		for at := range len(s) + 1 {
			for x := range 256 {
				one := string([]byte{byte(x)})
				checkText(t, s[:at]+one+s[at:])
				if at < len(s) {
					checkText(t, s[:at]+one+s[at+1:])
				}
			}
		}
	}
}

// checkText tells by the text alone whether it is a normal fraction's: read as a
// fraction by other means, it must come out as it is.
func checkText(t *testing.T, s string) {
	t.Helper()
	if want, isNumber := new(big.Rat).SetString(s); isNumber && textOf(want) == s {
		checkParse(t, s, want)
	} else {
		checkNone(t, s)
	}
}

// P7.2: all short texts of signs, strokes and some digits.
func TestParseOfAllShortTexts(t *testing.T) {
	const signs = "-/ 0124"
	texts := []string{""}
	for range 5 {
		var more []string
		for _, s := range texts {
			for i := range len(signs) {
				more = append(more, s+signs[i:i+1])
			}
		}
		texts = more
		for _, s := range texts {
			checkText(t, s)
		}
	}
}

// P7.2: numbers of MaxDigits digits are read, above and below the stroke. Longer ones
// are none that layer 5 reads.
func TestParseOfManyDigits(t *testing.T) {
	most := powerOfTen(api.MaxDigits, -1)
	first := powerOfTen(api.MaxDigits-1, 0)
	nines := strings.Repeat("9", api.MaxDigits)
	one := "1" + strings.Repeat("0", api.MaxDigits-1)
	for _, s := range []string{nines, one, "-" + nines, "-" + one} {
		number, _ := new(big.Int).SetString(s, 10)
		checkParse(t, s, new(big.Rat).SetInt(number))
		checkNone(t, s+"0")
		checkNone(t, s+"/"+s)
	}
	checkParse(t, nines+"/"+one, new(big.Rat).SetFrac(most, first))
	checkParse(t, "-"+one+"/"+nines, new(big.Rat).SetFrac(new(big.Int).Neg(first), most))
	checkParse(t, "1/"+nines, new(big.Rat).SetFrac(big.NewInt(1), most))
	checkParse(t, one+"/3", new(big.Rat).SetFrac(first, big.NewInt(3)))
	checkNone(t, nines+"/3")
	checkNone(t, one+"/2")
	for _, s := range []string{"1/" + one + "0", nines + "9/2", "-" + nines + "9/" + one, one + "/" + nines + "9"} {
		checkNone(t, s)
	}
}

// P7.2: what is printed is what a normal fraction is printed as, so that other texts
// of the number aren't read: of each one there is one text.
func TestOneTextOfEachNumber(t *testing.T) {
	for _, a := range others() {
		texts := []string{zint.Print(a.N) + "/" + zint.Print(a.D)}
		for _, b := range forms(a) {
			texts = append(texts, zint.Print(b.N)+"/"+zint.Print(b.D))
		}
		slices.Sort(texts)
		for _, s := range slices.Compact(texts) {
			if s != textOf(numberOf(a)) {
				checkNone(t, s)
			}
		}
	}
}
