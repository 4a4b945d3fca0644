package wide

import (
	"math"
	"math/big"
	"strings"
	"testing"

	"tariff/api"
)

var (
	maxWide = api.Wide{Hi: math.MaxUint64, Lo: math.MaxUint64}
	maxLong = api.Long{math.MaxUint64, math.MaxUint64, math.MaxUint64, math.MaxUint64}
	noWide  = api.Wide{}
	noLong  = api.Long{}
)

// bigLong is the number of words, the least first.
func bigLong(words ...uint64) *big.Int {
	n := new(big.Int)
	for i := len(words) - 1; i >= 0; i-- {
		n.Lsh(n, 64)
		n.Or(n, new(big.Int).SetUint64(words[i]))
	}
	return n
}

func bigWide(a api.Wide) *big.Int { return bigLong(a.Lo, a.Hi) }

// bigTen is 10^k.
func bigTen(k int) *big.Int {
	return new(big.Int).Exp(big.NewInt(10), big.NewInt(int64(k)), nil)
}

// toLong is the Long of a number, and whether it is one.
func toLong(n *big.Int) (api.Long, bool) {
	if n.Sign() < 0 || n.BitLen() > 256 {
		return noLong, false
	}
	var words api.Long
	rest := new(big.Int).Set(n)
	for i := range words {
		words[i] = new(big.Int).And(rest, bigLong(math.MaxUint64)).Uint64()
		rest.Rsh(rest, 64)
	}
	return words, true
}

// wantWide is the Wide of a number, or ErrOver.
func wantWide(n *big.Int) (api.Wide, api.Errno) {
	words, ok := toLong(n)
	if !ok || words[2] != 0 || words[3] != 0 {
		return noWide, api.ErrOver
	}
	return api.Wide{Hi: words[1], Lo: words[0]}, api.OK
}

// source makes words, the same ones in every test run: among them many that
// begin or end with equal bits, since those lead to carries.
type source struct{ state uint64 }

func (s *source) next() uint64 {
	s.state = s.state*6364136223846793005 + 1442695040888963407
	x := s.state
	x ^= x >> 33
	x *= 0xff51afd7ed558ccd
	return x ^ x>>29
}

func (s *source) word() uint64 {
	shift := s.next() % 64
	switch s.next() % 8 {
	case 0:
		return 0
	case 1:
		return math.MaxUint64
	case 2:
		return 1 << shift
	case 3:
		return 1<<shift - 1
	case 4:
		return math.MaxUint64 << shift
	case 5:
		return s.next() >> shift
	}
	return s.next()
}

func (s *source) wide() api.Wide { return api.Wide{Hi: s.word(), Lo: s.word()} }

func (s *source) long() api.Long { return api.Long{s.word(), s.word(), s.word(), s.word()} }

// edges are Wides around powers of two and of ten.
func edges() []api.Wide {
	list := []api.Wide{noWide, {Lo: 1}, {Lo: 2}, {Lo: 9}, {Lo: math.MaxUint64}, {Hi: 1}, {Hi: 1, Lo: 1},
		{Hi: 1 << 63}, {Hi: 1<<63 - 1, Lo: math.MaxUint64}, {Hi: math.MaxUint64}, maxWide, {Hi: math.MaxUint64, Lo: math.MaxUint64 - 1}}
	for k := 0; k <= 38; k++ {
		for _, step := range []int64{-1, 0, 1} {
			w, _ := wantWide(new(big.Int).Add(bigTen(k), big.NewInt(step)))
			list = append(list, w)
		}
	}
	return list
}

// pairs hands all pairs of edges, and many made by the source, to a check.
func pairs(check func(a, b api.Wide)) {
	for _, a := range edges() {
		for _, b := range edges() {
			check(a, b)
		}
	}
	s := &source{state: 1}
	for range 20000 {
		check(s.wide(), s.wide())
	}
}

// P1.1: Cmp, Add, Sub and Mul are those of whole numbers.
func TestPairs(t *testing.T) {
	pairs(func(a, b api.Wide) {
		x, y := bigWide(a), bigWide(b)
		if got := Cmp(a, b); got != x.Cmp(y) {
			t.Error("Cmp", a, b, got)
		}
		want, wantErr := wantWide(new(big.Int).Add(x, y))
		if got, e := Add(a, b); got != want || e != wantErr {
			t.Error("Add", a, b, got, e)
		}
		want, wantErr = wantWide(new(big.Int).Sub(x, y))
		if got, e := Sub(a, b); got != want || e != wantErr {
			t.Error("Sub", a, b, got, e)
		}
		product, _ := toLong(new(big.Int).Mul(x, y))
		if got := Mul(a, b); got != product {
			t.Error("Mul", a, b, got)
		}
	})
}

// P1.1: the chapter's examples and the bounds of sums and differences.
func TestSumExamples(t *testing.T) {
	max := uint64(math.MaxUint64)
	if got, e := Add(api.Wide{Lo: max}, api.Wide{Lo: 1}); got != (api.Wide{Hi: 1}) || e != api.OK {
		t.Error("Add with a carry:", got, e)
	}
	if got, e := Add(maxWide, api.Wide{Lo: 1}); got != noWide || e != api.ErrOver {
		t.Error("Add beyond:", got, e)
	}
	if got, e := Add(maxWide, noWide); got != maxWide || e != api.OK {
		t.Error("Add at the bound:", got, e)
	}
	if got, e := Sub(api.Wide{Hi: 1}, api.Wide{Lo: 1}); got != (api.Wide{Lo: max}) || e != api.OK {
		t.Error("Sub with a borrow:", got, e)
	}
	if got, e := Sub(noWide, api.Wide{Lo: 1}); got != noWide || e != api.ErrOver {
		t.Error("Sub below:", got, e)
	}
	if got := Mul(api.Wide{Hi: 1}, api.Wide{Hi: 1}); got != (api.Long{0, 0, 1, 0}) {
		t.Error("Mul:", got)
	}
	if got := Mul(maxWide, maxWide); got != (api.Long{1, 0, max - 1, max}) {
		t.Error("Mul of the greatest:", got)
	}
}

// P1.1: Narrow keeps what has two words, and refuses all else.
func TestNarrow(t *testing.T) {
	for _, n := range []api.Long{{1, 2, 3, 0}, {1, 2, 0, 3}, {0, 0, 1, 0}, {0, 0, 0, 1}, maxLong} {
		if got, e := Narrow(n); got != noWide || e != api.ErrOver {
			t.Error("Narrow", n, got, e)
		}
	}
	for _, w := range edges() {
		if got, e := Narrow(api.Long{w.Lo, w.Hi}); got != w || e != api.OK {
			t.Error("Narrow", w, got, e)
		}
	}
}

// P1.1: Ten from 0 to 38, and nothing beyond.
func TestTen(t *testing.T) {
	for k := 0; k <= 38; k++ {
		want, _ := wantWide(bigTen(k))
		if got, e := Ten(k); got != want || e != api.OK {
			t.Error("Ten", k, got, e)
		}
	}
	for _, k := range []int{-1, 39, 40, 64, 256, math.MaxInt, math.MinInt} {
		if got, e := Ten(k); got != noWide || e != api.ErrArg {
			t.Error("Ten", k, got, e)
		}
	}
}

// P1.1: Digits and Trim, also of numbers with many zeros at their end.
func TestDigitsAndTrim(t *testing.T) {
	list := edges()
	s := &source{state: 2}
	for range 5000 {
		list = append(list, s.wide())
		n := new(big.Int).Mul(big.NewInt(int64(s.next()%1000)), bigTen(int(s.next()%36)))
		w, _ := wantWide(n)
		list = append(list, w)
	}
	for _, a := range list {
		text := bigWide(a).String()
		if got := Digits(a); got != len(text) {
			t.Error("Digits", a, got)
		}
		short := strings.TrimRight(text, "0")
		zeros := len(text) - len(short)
		if a == noWide {
			short, zeros = "0", 0
		}
		n, _ := new(big.Int).SetString(short, 10)
		want, _ := wantWide(n)
		if got, k := Trim(a); got != want || k != zeros {
			t.Error("Trim", a, got, k)
		}
	}
	if got, k := Trim(api.Wide{Lo: 1200}); got != (api.Wide{Lo: 12}) || k != 2 {
		t.Error("Trim of 1200:", got, k)
	}
	if Digits(noWide) != 1 || Digits(api.Wide{Lo: 9}) != 1 || Digits(api.Wide{Lo: 10}) != 2 || Digits(maxWide) != 39 {
		t.Error("Digits")
	}
}

// checkDiv holds one quotient and its rest against those of whole numbers.
func checkDiv(t *testing.T, n api.Long, d api.Wide) {
	t.Helper()
	q, rest, e := Div(n, d)
	if d == noWide {
		if q != noLong || rest != noWide || e != api.ErrZero {
			t.Error("Div by 0:", n, q, rest, e)
		}
		return
	}
	wantQ, wantRest := new(big.Int).QuoRem(bigLong(n[:]...), bigWide(d), new(big.Int))
	if bigLong(q[:]...).Cmp(wantQ) != 0 || bigWide(rest).Cmp(wantRest) != 0 || e != api.OK {
		t.Error("Div", n, d, "is", q, rest, e, "want", wantQ, wantRest)
	}
}

// P1.2: Div rounds down and tells what is left.
func TestDiv(t *testing.T) {
	q, rest, e := Div(api.Long{0, 0, 1, 0}, api.Wide{Lo: 10})
	if q != (api.Long{11068046444225730969, 1844674407370955161}) || rest != (api.Wide{Lo: 6}) || e != api.OK {
		t.Error("Div example:", q, rest, e)
	}
	s := &source{state: 3}
	for _, d := range edges() {
		checkDiv(t, noLong, d)
		checkDiv(t, maxLong, d)
		for range 100 {
			checkDiv(t, s.long(), d)
		}
	}
	for range 100000 {
		checkDiv(t, s.long(), s.wide())
	}
}

// P1.2: Div of products, and of their neighbours, where rests are 0, 1 and the
// divisor less 1.
func TestDivOfProducts(t *testing.T) {
	s := &source{state: 4}
	for range 50000 {
		q, d := s.wide(), s.wide()
		product := bigLong(0)
		product.Mul(bigWide(q), bigWide(d))
		for _, step := range []int64{-1, 0, 1} {
			if n, ok := toLong(new(big.Int).Add(product, big.NewInt(step))); ok {
				checkDiv(t, n, d)
			}
		}
	}
}

// wantRound is n / 10^k rounded, ties to even, worked out by twice the rest.
func wantRound(n api.Long, k int) (api.Wide, api.Errno) {
	ten := bigTen(k)
	q, rest := new(big.Int).QuoRem(bigLong(n[:]...), ten, new(big.Int))
	side := rest.Lsh(rest, 1).Cmp(ten)
	if side > 0 || side == 0 && q.Bit(0) == 1 {
		q.Add(q, big.NewInt(1))
	}
	return wantWide(q)
}

func checkRound(t *testing.T, n api.Long, k int) {
	t.Helper()
	want, wantErr := wantRound(n, k)
	if got, e := Round(n, k); got != want || e != wantErr {
		t.Error("Round", n, k, "is", got, e, "want", want, wantErr)
	}
}

// P1.2: Round of ties, of what is a little more or less than a tie, and of all
// powers of ten.
func TestRoundTies(t *testing.T) {
	s := &source{state: 5}
	for k := 1; k <= 76; k++ {
		half := new(big.Int).Quo(bigTen(k), big.NewInt(2))
		for range 40 {
			q := new(big.Int).SetUint64(s.word() % 100000)
			if s.next()%2 == 0 {
				q = bigWide(s.wide())
			}
			tie := q.Mul(q, bigTen(k))
			tie.Add(tie, half)
			for _, step := range []int64{-1, 0, 1} {
				if n, ok := toLong(new(big.Int).Add(tie, big.NewInt(step))); ok {
					checkRound(t, n, k)
				}
			}
		}
	}
}

// P1.2: Round of any numbers, for every power of ten.
func TestRound(t *testing.T) {
	s := &source{state: 6}
	for k := 0; k <= 76; k++ {
		checkRound(t, noLong, k)
		checkRound(t, maxLong, k)
		for range 300 {
			checkRound(t, s.long(), k)
		}
	}
}

// P1.2: the chapter's examples, and wrong arguments of Round.
func TestRoundExamples(t *testing.T) {
	for _, c := range []struct {
		n    uint64
		k    int
		want uint64
	}{{25, 1, 2}, {35, 1, 4}, {26, 1, 3}, {24, 1, 2}, {250, 1, 25}, {250, 2, 2}, {251, 2, 3}, {1, 76, 0}, {5, 1, 0}, {15, 1, 2}} {
		if got, e := Round(api.Long{c.n}, c.k); got != (api.Wide{Lo: c.want}) || e != api.OK {
			t.Error("Round", c, got, e)
		}
	}
	if got, e := Round(api.Long{0, 0, 1, 0}, 0); got != noWide || e != api.ErrOver {
		t.Error("Round beyond:", got, e)
	}
	// 2^128 - 1 and a half is rounded up to 2^128, which is even.
	tie := new(big.Int).Mul(bigWide(maxWide), big.NewInt(10))
	n, _ := toLong(tie.Add(tie, big.NewInt(5)))
	if got, e := Round(n, 1); got != noWide || e != api.ErrOver {
		t.Error("Round a tie beyond:", got, e)
	}
	n[0]--
	if got, e := Round(n, 1); got != maxWide || e != api.OK {
		t.Error("Round below the tie:", got, e)
	}
	for _, k := range []int{-1, 77, math.MaxInt, math.MinInt} {
		if got, e := Round(maxLong, k); got != noWide || e != api.ErrArg {
			t.Error("Round", k, got, e)
		}
	}
}

// P1.3: Read takes what Text writes, and Text writes plain digits.
func TestReadAndText(t *testing.T) {
	list := edges()
	s := &source{state: 7}
	for range 20000 {
		list = append(list, s.wide())
	}
	for _, w := range list {
		text := Text(w)
		if text != bigWide(w).String() {
			t.Error("Text", w, text)
		}
		if got, e := Read(text); got != w || e != api.OK {
			t.Error("Read", text, got, e)
		}
	}
	if Text(noWide) != "0" || Text(api.Wide{Hi: 1}) != "18446744073709551616" {
		t.Error("Text examples")
	}
}

// P1.3: wrong texts, and numbers beyond the room.
func TestReadWrong(t *testing.T) {
	nines := strings.Repeat("9", 60)
	for _, s := range []string{"", "007", "00", "01", "+1", "-1", "1 ", " 1", "1.0", "1_0", "0x1", "a", "1a", "\x00",
		"\xff", "1\n", "٣", "12/4", "1:1", nines + "x", "x" + nines, "0" + nines, "-" + nines, "0" + "340282366920938463463374607431768211456"} {
		if got, e := Read(s); got != noWide || e != api.ErrText {
			t.Error("Read", s, got, e)
		}
	}
	if got, e := Read("340282366920938463463374607431768211455"); got != maxWide || e != api.OK {
		t.Error("Read the greatest:", got, e)
	}
	for _, s := range []string{"340282366920938463463374607431768211456", "340282366920938463463374607431768211460",
		"999999999999999999999999999999999999999", "1" + strings.Repeat("0", 39), nines, strings.Repeat("1", 1000000)} {
		if got, e := Read(s); got != noWide || e != api.ErrOver {
			t.Error("Read beyond", len(s), got, e)
		}
	}
}
