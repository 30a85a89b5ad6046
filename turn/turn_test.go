package turn

import (
	"math"
	"math/rand"
	"strings"
	"testing"
	"time"
)

// slowParts: the turned sum in the document's own words, in integers: each byte times i to the number of bytes behind it.
func slowParts(s string) (int64, int64) {
	var along, across int64
	for k := 0; k < len(s); k++ {
		b := int64(s[k])
		switch (len(s) - 1 - k) % 4 {
		case 0:
			along += b
		case 1:
			across += b
		case 2:
			along -= b
		case 3:
			across -= b
		}
	}
	return along, across
}

func slowSum(s string) complex128 {
	along, across := slowParts(s)
	return complex(float64(along), float64(across))
}

// same: equal bit by bit, so that -0 isn't 0.
func same(a, b complex128) bool {
	return math.Float64bits(real(a)) == math.Float64bits(real(b)) &&
		math.Float64bits(imag(a)) == math.Float64bits(imag(b))
}

func allBytes() string {
	all := make([]byte, 256)
	for i := range all {
		all[i] = byte(i)
	}
	return string(all)
}

// someText: n bytes of any values, the same ones at each run for one source.
func someText(source *rand.Rand, n int) string {
	text := make([]byte, n)
	for i := range text {
		text[i] = byte(source.Intn(256))
	}
	return string(text)
}

// texts: ordinary ones, the first lengths, all byte values, and those whose sums have parts of 0.
func texts() []string {
	source := rand.New(rand.NewSource(2))
	list := []string{
		"", "a", "ab", "abc", "abcd", "abcde", "hello, world", "grüße, 世界",
		"\x00", "\x01", "\x7f", "\x80", "\xff", "\xc3\x28",
		"xyxy", "xyxyx", "\x00\x00\x00", "\x07\x00\x00", "\x07\x00\x00\x00", "\x00\x07\x00\x07\x00",
		allBytes(), strings.Repeat(allBytes(), 5),
		strings.Repeat("\x00", 64), strings.Repeat("\xff", 1001), strings.Repeat("\xff\x00\x00\x00", 999),
		someText(source, 70001),
	}
	for n := 0; n <= 40; n++ {
		list = append(list, someText(source, n), strings.Repeat("\x00", n), strings.Repeat("\xff", n))
		list = append(list, "\x05"+strings.Repeat("\x00", n), "\x05"+strings.Repeat("\x00", n)+"\x05")
	}
	for b := range 256 {
		list = append(list, string([]byte{byte(b)}), string([]byte{byte(b), 0}), string([]byte{byte(b), byte(b), 1}))
	}
	return list
}

// P2.1, Sum: the document's examples, texts of 0 to 5 bytes and what they come to by hand.
func TestSumTellsKnownSums(t *testing.T) {
	for text, want := range map[string]complex128{
		"":                     0,
		"a":                    97,
		"ab":                   98 + 97i,
		"abc":                  99 - 97 + 98i,
		"abcd":                 100 - 98 + (99-97)*1i,
		"abcde":                101 - 99 + 97 + (100-98)*1i,
		"\x00":                 0,
		"\xff":                 255,
		"\x80\x80":             128 + 128i,
		"\x01\x00":             1i,
		"\x01\x00\x00":         -1,
		"\x01\x00\x00\x00":     complex(0, -1),
		"\x01\x00\x00\x00\x00": 1,
	} {
		if got := Sum(text); !same(got, want) {
			t.Errorf("Sum(%q): %v, not %v", text, got, want)
		}
	}
}

// P2.1, Sum: all kinds of texts, and zero parts that are 0, not -0.
func TestSumIsTurnedSum(t *testing.T) {
	for _, text := range texts() {
		if got, want := Sum(text), slowSum(text); !same(got, want) {
			t.Errorf("Sum of %d bytes (%.10q): %v, not %v", len(text), text, got, want)
		}
	}
}

// P2.1, Power: n from 0 up, below 0, and at the ends of what an int holds.
func TestPowerIsPowerOfI(t *testing.T) {
	turns := []complex128{1, 1i, -1, complex(0, -1)}
	for n := -1001; n <= 1001; n++ {
		rest := n % 4
		if rest < 0 {
			rest += 4
		}
		if got := Power(n); !same(got, turns[rest]) {
			t.Errorf("Power(%d): %v, not %v", n, got, turns[rest])
		}
	}
	for n, want := range map[int]complex128{
		math.MaxInt: complex(0, -1), math.MaxInt - 1: -1, math.MinInt: 1, math.MinInt + 1: 1i, 1 << 40: 1, -1<<40 - 1: complex(0, -1),
	} {
		if got := Power(n); !same(got, want) {
			t.Errorf("Power(%d): %v, not %v", n, got, want)
		}
	}
}

// P2.1, Roll: one step by hand, with a window of one byte among them.
func TestRollTellsKnownSteps(t *testing.T) {
	for _, step := range []struct {
		from    string
		in      byte
		through complex128
	}{
		{"a", 'b', 98},
		{"ab", 'c', 99 + 98i},
		{"abc", 'd', 100 - 98 + 99i},
		{"\x05", 0, 0},
		{"\x05\x00", 0, 0},
		{"\x00\x05\x00", 0, complex(-5, 0)},
		{"\x00\x05\x00\x00", 0, complex(0, -5)},
		{"\xff\xff", 255, 255 + 255i},
	} {
		if got := Roll(Sum(step.from), len(step.from), step.from[0], step.in); !same(got, step.through) {
			t.Errorf("Roll from %q to %q: %v, not %v", step.from, step.in, got, step.through)
		}
	}
}

// P2.2: windows of all first lengths and of some greater ones, rolled along long texts.
func TestRolledSumIsThatOfEachWindow(t *testing.T) {
	source := rand.New(rand.NewSource(3))
	long := []string{
		someText(source, 3000), strings.Repeat(allBytes(), 6), strings.Repeat("\x00", 700), strings.Repeat("\xff", 700),
		strings.Repeat("\x05\x00\x00\x00\x00\x00", 90), strings.Repeat("the quick brown fox ", 60),
	}
	for _, text := range long {
		for _, n := range []int{1, 2, 3, 4, 5, 6, 7, 8, 9, 15, 16, 17, 63, 128, 500} {
			z := Sum(text[:n])
			for k := n; k < len(text); k++ {
				z = Roll(z, n, text[k-n], text[k])
				if want := slowSum(text[k-n+1 : k+1]); !same(z, want) {
					t.Fatalf("window of %d bytes behind byte %d of %.10q: %v, not %v", n, k, text, z, want)
				}
			}
		}
	}
}

// P2.2: rolled a long way, nothing gathers in the sum.
func TestSumRolledLongWayIsExact(t *testing.T) {
	text := someText(rand.New(rand.NewSource(4)), 500000)
	n := 8
	z := Sum(text[:n])
	for k := n; k < len(text); k++ {
		z = Roll(z, n, text[k-n], text[k])
	}
	if want := slowSum(text[len(text)-n:]); !same(z, want) {
		t.Errorf("behind %d bytes: %v, not %v", len(text), z, want)
	}
}

// P2.1, Join and Less: each text cut at all its places, the first and the last one (n of 0) among them.
func TestJoinIsSumOfBothAndLessIsTheWayBack(t *testing.T) {
	for _, text := range texts() {
		step := 1 + len(text)/50
		for k := 0; k <= len(text); k += step {
			a, b, n := slowSum(text[:k]), slowSum(text[k:]), len(text)-k
			z := Join(a, b, n)
			if want := slowSum(text); !same(z, want) {
				t.Fatalf("Join of %d bytes and %d of %.10q: %v, not %v", k, n, text, z, want)
			}
			if back := Less(z, b, n); !same(back, a) {
				t.Fatalf("Less of %d bytes behind %d of %.10q: %v, not %v", n, k, text, back, a)
			}
		}
	}
}

// P2.1, Join and Less: nothing joined on, and nothing joined to.
func TestJoinAndLessOfNothing(t *testing.T) {
	for _, z := range []complex128{0, 97, 98 + 97i, -1, complex(0, -1), complex(-7, 7)} {
		if got := Join(z, 0, 0); !same(got, z) {
			t.Errorf("Join(%v, 0, 0): %v", z, got)
		}
		if got := Less(z, 0, 0); !same(got, z) {
			t.Errorf("Less(%v, 0, 0): %v", z, got)
		}
		for n := range 9 {
			if got := Join(0, z, n); !same(got, z) {
				t.Errorf("Join(0, %v, %d): %v", z, n, got)
			}
			if got := Less(z, z, n); !same(got, 0) {
				t.Errorf("Less(%v, %v, %d): %v", z, z, n, got)
			}
		}
	}
}

// P2.1, Join: the sums of texts longer than a test can hold stay exact.
func TestJoinOfGreatSumsIsExact(t *testing.T) {
	z, n := Sum("\xff\xff\x00\x00"), 4
	for n < 1<<40 {
		z, n = Join(z, z, n), 2*n
	}
	if want := complex(-255<<38, -255<<38); !same(z, want) {
		t.Errorf("%v, not %v", z, want)
	}
	if got, want := Join(z, 1, 1), complex(255<<38+1, -255<<38); !same(got, want) {
		t.Errorf("with a byte more: %v, not %v", got, want)
	}
}

// P2.1, Cell: known cells, n of 1 and of 2^20, parts below 0.
func TestCellTellsKnownCells(t *testing.T) {
	for _, one := range []struct {
		z    complex128
		n    int
		want int
	}{
		{0, 1, 0}, {0, 16, 0}, {98 + 97i, 16, 5}, {98 + 97i, 1, 0}, {98 + 97i, 1 << 20, 389},
		{-1, 16, 15}, {-1, 1, 0}, {-1, 2, 1}, {-1, 1 << 20, 1<<20 - 1}, {-16, 16, 0}, {-17, 16, 15},
		{complex(0, -1), 7, 4}, {complex(0, -1), 2, 1}, {complex(0, -1), 1 << 20, 1<<20 - 3},
		{complex(-5, -9), 16, 0}, {complex(-5, -9), 1 << 20, 1<<20 - 32}, {complex(3, -1), 5, 0}, {complex(2, -1), 5, 4},
		{1 << 20, 1 << 20, 0}, {complex(1<<20-3, 1), 1 << 20, 0}, {complex(-3, 1), 1 << 20, 0},
		{complex(255<<39, 255<<39), 16, 0}, {complex(255<<39+1, -255<<39), 1<<20 - 1, slowCell(255<<39+1, -255<<39, 1<<20-1)},
		{complex(-255<<39, -255<<39), 1<<20 - 1, slowCell(-255<<39, -255<<39, 1<<20-1)},
	} {
		if got := Cell(one.z, one.n); got != one.want {
			t.Errorf("Cell(%v, %d): %d, not %d", one.z, one.n, got, one.want)
		}
	}
}

func slowCell(along, across int64, n int) int {
	m := int64(n)
	return int((((along + 3*across) % m) + m) % m)
}

// P2.1, Cell: of all kinds of sums, for many n.
func TestCellIsRemainderFromZeroUp(t *testing.T) {
	for _, text := range texts() {
		along, across := slowParts(text)
		for _, n := range []int{1, 2, 3, 4, 5, 7, 8, 16, 17, 100, 255, 256, 1000, 65536, 1<<20 - 1, 1 << 20} {
			if got, want := Cell(slowSum(text), n), slowCell(along, across, n); got != want {
				t.Errorf("Cell(%v, %d): %d, not %d", slowSum(text), n, got, want)
			}
		}
	}
}

// tryAll: each call with these arguments; with what it answers, again.
func tryAll(z, w complex128, n int) {
	for _, answer := range []complex128{Power(n), Roll(z, n, 0, 255), Roll(w, n, 255, 0), Join(z, w, n), Less(z, w, n)} {
		Cell(answer, n)
		Cell(answer, 16)
	}
	Cell(z, n)
}

// P0: numbers that are no sums, and n that are told otherwise: each call ends, none panics, and the same is answered again.
func TestOtherNumbersAreAnsweredToo(t *testing.T) {
	parts := []float64{
		0, math.Copysign(0, -1), 1, -1, 0.5, -2.75, 1 << 53, -1 << 53, 1 << 62, -1 << 63, 1 << 63, 1e300, -1e300,
		math.MaxFloat64, math.SmallestNonzeroFloat64, math.Inf(1), math.Inf(-1), math.NaN(),
	}
	numbers := []int{0, 1, 2, 3, -1, -2, -3, 16, 1 << 20, 1<<20 + 1, 1 << 40, -1 << 40, math.MaxInt32, math.MinInt32, math.MaxInt, math.MinInt}
	done := make(chan bool)
	go func() {
		defer close(done)
		for _, along := range parts {
			for _, across := range parts {
				for _, n := range numbers {
					z := complex(along, across)
					tryAll(z, complex(across, along), n)
					if Cell(z, n) != Cell(z, n) {
						t.Errorf("Cell(%v, %d): two answers", z, n)
					}
				}
			}
		}
	}()
	select {
	case <-done:
	case <-time.After(time.Minute):
		t.Fatal("a call doesn't end")
	}
}

// P2.1, Cell: what is answered stays from 0 up and below n, of numbers that are no sums too.
func TestCellStaysInItsRange(t *testing.T) {
	for _, z := range []complex128{complex(math.NaN(), 0), complex(math.Inf(-1), 1), complex(0, math.Inf(1)), -1e300, 1e300, -0.5, complex(-3.5, 0.25), -1 << 60} {
		for _, n := range []int{1, 2, 16, 1000, 1 << 20} {
			if got := Cell(z, n); got < 0 || got >= n {
				t.Errorf("Cell(%v, %d): %d", z, n, got)
			}
		}
	}
}

// R4, R7: asked again, each call answers the same.
func TestCallsAnswerTheSameAgain(t *testing.T) {
	for _, text := range texts() {
		z := Sum(text)
		tryAll(z, z, len(text))
		if !same(Sum(text), z) {
			t.Errorf("Sum of %d bytes: two answers", len(text))
		}
	}
}

// The sums of the parts of a text, joined, and taken off again from behind.
func TestPartsJoinAndComeOffAgain(t *testing.T) {
	source := rand.New(rand.NewSource(5))
	parts := make([]string, 40)
	var z complex128
	for k := range parts {
		parts[k] = someText(source, source.Intn(9))
		z = Join(z, Sum(parts[k]), len(parts[k]))
	}
	if want := slowSum(strings.Join(parts, "")); !same(z, want) {
		t.Fatalf("%v, not %v", z, want)
	}
	for k := len(parts) - 1; k >= 0; k-- {
		z = Less(z, Sum(parts[k]), len(parts[k]))
		if want := slowSum(strings.Join(parts[:k], "")); !same(z, want) {
			t.Fatalf("without part %d: %v, not %v", k, z, want)
		}
	}
}
