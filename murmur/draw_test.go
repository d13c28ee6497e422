package murmur_test

import (
	"math"
	"math/rand"
	"strings"
	"sync"
	"testing"

	"murmur/api"
	"murmur/murmur"
)

type drawn struct {
	draw, taken int
	err         api.Errno
}

func drawOf(k int, tape string) drawn {
	draw, taken, err := murmur.Draw(k, tape)
	return drawn{draw, taken, err}
}

func checkDraw(t *testing.T, k int, tape string, want drawn) {
	t.Helper()
	if got := drawOf(k, tape); got != want {
		t.Errorf("Draw(%d, %.60q of %d bytes) = %v, want %v", k, tape, len(tape), got, want)
	}
}

// P4, the document's example 2.
func TestDrawExamples(t *testing.T) {
	checkDraw(t, 1, "0011", drawn{2, 4, api.OK})
	checkDraw(t, 2, "10110111", drawn{0, 8, api.OK})
	checkDraw(t, 1, "0", drawn{0, 0, api.ErrZero})
}

// P4: a trial takes k bits at once, so ones that straddle two trials stop none.
func TestDrawTakesWholeTrials(t *testing.T) {
	checkDraw(t, 2, "01101111", drawn{2, 8, api.OK})
	checkDraw(t, 3, "011110111111", drawn{2, 12, api.OK})
	checkDraw(t, 4, "011111101111"+"1111", drawn{2, 16, api.OK})
	checkDraw(t, 1, "11", drawn{0, 2, api.OK})
	checkDraw(t, 1, "10001", drawn{-3, 5, api.OK})
	checkDraw(t, 1, "0101", drawn{0, 4, api.OK})
}

// geometricTape is a tape of trials that do not stop, and one that does.
func geometricTape(r *rand.Rand, k int, count int) string {
	var tape strings.Builder
	for range count {
		trial := r.Intn(1<<k - 1)
		for bit := range k {
			tape.WriteByte('0' + byte(trial>>bit&1))
		}
	}
	return tape.String() + strings.Repeat("1", k)
}

// P4: draws made from known geometrics; what stands behind the draw does not
// count, and a tape that is shorter by any number of bits is ErrZero.
func TestDrawRandom(t *testing.T) {
	r := rand.New(rand.NewSource(5))
	for k := 1; k <= api.MaxNoise; k++ {
		for range 200 {
			first, second := r.Intn(12), r.Intn(12)
			tape := geometricTape(r, k, first) + geometricTape(r, k, second)
			want := drawn{first - second, len(tape), api.OK}
			for _, rest := range []string{"", "0", "1", "1111", "0000", "10"} {
				checkDraw(t, k, tape+rest, want)
			}
			for end := range len(tape) {
				checkDraw(t, k, tape[:end], drawn{0, 0, api.ErrZero})
			}
		}
	}
}

// P4: tapes that end ahead of the last trial, or within it.
func TestDrawTapeEnds(t *testing.T) {
	for k := 1; k <= api.MaxNoise; k++ {
		ones := strings.Repeat("1", 2*k)
		checkDraw(t, k, ones, drawn{0, 2 * k, api.OK})
		checkDraw(t, k, "", drawn{0, 0, api.ErrZero})
		checkDraw(t, k, ones[:k], drawn{0, 0, api.ErrZero})
		checkDraw(t, k, ones[:2*k-1], drawn{0, 0, api.ErrZero})
		checkDraw(t, k, strings.Repeat("0", api.MaxTape), drawn{0, 0, api.ErrZero})
	}
}

// P4: a tape of MaxTape bytes is one, a byte more makes it none, although the
// draw would be done long ahead of its end.
func TestDrawLongestTape(t *testing.T) {
	zeros := strings.Repeat("0", api.MaxTape-2)
	checkDraw(t, 1, zeros+"11", drawn{api.MaxTape - 2, api.MaxTape, api.OK})
	checkDraw(t, 1, "1"+zeros+"1", drawn{2 - api.MaxTape, api.MaxTape, api.OK})
	checkDraw(t, 1, "11"+zeros, drawn{0, 2, api.OK})
	checkDraw(t, 1, "11"+zeros+"0", drawn{0, 0, api.ErrText})
	checkDraw(t, 4, strings.Repeat("1", api.MaxTape+1), drawn{0, 0, api.ErrText})
	checkDraw(t, 1, strings.Repeat("1", 1<<22), drawn{0, 0, api.ErrText})
}

// P4: k from 1 to MaxNoise; just outside and far off it is ErrArg.
func TestDrawNoise(t *testing.T) {
	ones := strings.Repeat("1", 2*api.MaxNoise+2)
	for k := 1; k <= api.MaxNoise; k++ {
		checkDraw(t, k, ones, drawn{0, 2 * k, api.OK})
	}
	for _, k := range []int{0, api.MaxNoise + 1, -1, -4, 1 << 32, 1<<32 + 1, math.MaxInt, math.MinInt} {
		checkDraw(t, k, ones, drawn{0, 0, api.ErrArg})
	}
}

// P4: other bytes are ErrText wherever they stand, also behind the draw.
func TestDrawOtherBytes(t *testing.T) {
	for other := range 256 {
		if other == '0' || other == '1' {
			continue
		}
		text := string([]byte{byte(other)})
		for _, tape := range []string{text, text + "11", "1" + text + "1", "11" + text, "11" + strings.Repeat("0", api.MaxTape-3) + text} {
			checkDraw(t, 1, tape, drawn{0, 0, api.ErrText})
		}
	}
}

// P1: of several errors the one that the document names first.
func TestDrawFirstError(t *testing.T) {
	tooLong := strings.Repeat("1", api.MaxTape+1)
	for _, k := range []int{0, api.MaxNoise + 1} {
		for _, tape := range []string{"", "0", "2", "11x", tooLong} {
			checkDraw(t, k, tape, drawn{0, 0, api.ErrArg})
		}
	}
	for _, tape := range []string{"2", "0x", "x0", strings.Repeat("0", api.MaxTape+1)} {
		checkDraw(t, 1, tape, drawn{0, 0, api.ErrText})
	}
}

// P2: a draw hangs on the arguments alone, not on the calls ahead or beside.
func TestDrawSameAgain(t *testing.T) {
	tapes := []string{"0011", "10110111", "0", "", "2", "1111111100", strings.Repeat("01", 40) + "11111111"}
	first := drawsOf(tapes)
	var group sync.WaitGroup
	for range 4 {
		group.Go(func() {
			for i, again := range drawsOf(tapes) {
				if again != first[i] {
					t.Errorf("draw %d is %v, was %v", i, again, first[i])
				}
			}
		})
	}
	group.Wait()
}

// drawsOf are the draws of all tapes, with k from below 1 to above MaxNoise.
func drawsOf(tapes []string) []drawn {
	var draws []drawn
	for k := range api.MaxNoise + 2 {
		for _, tape := range tapes {
			draws = append(draws, drawOf(k, tape))
		}
	}
	return draws
}

// P1: no number and no text makes Draw panic, and an error comes with zeros.
func FuzzDraw(f *testing.F) {
	f.Add(1, "0011")
	f.Add(2, "10110111")
	f.Add(4, "1111111")
	f.Add(-1, "\xff")
	f.Fuzz(func(t *testing.T, k int, tape string) {
		got := drawOf(k, tape)
		if got.err != api.OK && (got.draw != 0 || got.taken != 0) {
			t.Errorf("Draw(%d, %q) = %v", k, tape, got)
		}
		if got.err == api.OK && (got.taken < 2*k || got.taken > len(tape) || got.taken%k != 0) {
			t.Errorf("Draw(%d, %q) = %v", k, tape, got)
		}
	})
}
