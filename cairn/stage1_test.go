package cairn_test

import (
	"math"
	"slices"
	"testing"

	"cairn/api"
	"cairn/cairn"
)

const full = math.MaxUint64

// The sums are written out, worked out apart from the program, so that a fault
// in its rule cannot stand on both sides.
var sums = []struct {
	words []uint64
	want  uint64
}{
	{nil, 0},
	{[]uint64{}, 0},
	{[]uint64{0}, 0},
	{[]uint64{0, 0, 0, 0, 0, 0, 0}, 0},
	{[]uint64{1}, 0x9e3779b97f4a7c15},
	{[]uint64{2}, 0x3c6ef372fe94f82a},
	{[]uint64{1 << 63}, 1 << 63},
	{[]uint64{1, 0}, 0xd4d48695b0a49bec},
	{[]uint64{1, 0, 0}, 0x6d15b9b2d0dcb6dd},
	{[]uint64{1, 2, 3}, 0x38d7e0e108359ab5},
	{[]uint64{3, 2, 1}, 0x091b86c5f949d079},
	{[]uint64{1 << 63, 1}, 0xd5b13338c9c69115},
	{[]uint64{1 << 55, 1 << 54}, 0xffccfc37711c2db9},
	{[]uint64{0x5555555555555555, 0xaaaaaaaaaaaaaaaa}, 0xa83cc50948c81f47},
	{[]uint64{7, 1 << 60, full, 0, 20261114}, 0xc2aa325fcdd28ba6},
	{[]uint64{full}, 0x61c8864680b583eb},
	{[]uint64{0, full}, 0x61c8864680b583eb},
	{[]uint64{full, 0}, 0xfbe772af650911ff},
	{[]uint64{full, full}, 0x65e113971bac71ec},
	{[]uint64{full, full, full}, 0xdd59949179546744},
	{slices.Repeat([]uint64{full}, 4096), 0x460e649b77b94a73},
	{[]uint64{20261114, 1, 0, 0, 0, 0, 0}, 0x5a129ec65c23fbdb},
}

func TestSum(t *testing.T) {
	for _, c := range sums {
		if s := cairn.Sum(c.words); s != c.want {
			t.Errorf("P3: Sum of %d words %x... = %x, want %x", len(c.words), c.words[:min(len(c.words), 8)], s, c.want)
		}
	}
}

func TestSumOfManyWords(t *testing.T) {
	words := make([]uint64, 1000)
	for i := range words {
		words[i] = uint64(i)
	}
	if s := cairn.Sum(words); s != 0x13a139d90b026dba {
		t.Errorf("P3: Sum(0 to 999) = %x", s)
	}
}

func TestSumLeavesItsListAlone(t *testing.T) {
	for _, c := range sums {
		// Behind the list stands what is not its own: it must be neither read nor written.
		room := append(slices.Clone(c.words), 77, full, 0, 99)
		before := slices.Clone(room)
		if s := cairn.Sum(room[:len(c.words)]); s != c.want {
			t.Errorf("P3: Sum hangs on what is behind its list: %x, want %x", s, c.want)
		}
		if !slices.Equal(room, before) {
			t.Errorf("P2: Sum of %d words wrote into its list, or behind it", len(c.words))
		}
	}
}

func TestSumKeepsNothing(t *testing.T) {
	words := []uint64{1, 2, 3}
	cairn.Sum(words)
	words[0], words[2] = 3, 1
	if s := cairn.Sum(words); s != 0x091b86c5f949d079 {
		t.Errorf("P2: Sum of a list that was changed = %x", s)
	}
}

func TestFormatExample(t *testing.T) {
	want := make([]uint64, 114)
	copy(want, []uint64{20261114, 1, 0, 0, 0, 0, 0, 0x5a129ec65c23fbdb})
	if image, e := cairn.Format(1); e != api.OK || !slices.Equal(image, want) {
		t.Errorf("P3: Format(1) = %x, %d", image, e)
	}
}

func TestFormatLastSize(t *testing.T) {
	want := make([]uint64, 362)
	copy(want, []uint64{20261114, 32, 0, 0, 0, 0, 0, 0x8400b839bf87b7d7})
	if image, e := cairn.Format(api.MaxBlocks); e != api.OK || !slices.Equal(image, want) {
		t.Errorf("P3: Format(MaxBlocks) = %x, %d", image, e)
	}
}

func TestFormatEverySize(t *testing.T) {
	for n := 1; n <= 32; n++ {
		want := make([]uint64, 8+98+8*n)
		want[0], want[1] = 20261114, uint64(n)
		want[7] = cairn.Sum(want[:7])
		if image, e := cairn.Format(n); e != api.OK || !slices.Equal(image, want) {
			t.Errorf("P3: Format(%d) = %d words, %d", n, len(image), e)
		}
	}
}

func TestFormatWrongSizes(t *testing.T) {
	wrong := []int{0, -1, -2, -13, -14, -31, -32, -33, 33, 34, 64, 114, 255, 256, 257,
		math.MaxInt32, math.MinInt32, math.MaxInt, math.MaxInt - 1, math.MinInt, math.MinInt + 1}
	// Cut down to fewer bits, or times eight, these would be 1 or 32.
	for _, shift := range []int{8, 16, 32, 61, 62} {
		wrong = append(wrong, 1<<shift+1, 1<<shift+32, -1<<shift+1, -1<<shift+32)
	}
	for _, n := range wrong {
		if image, e := cairn.Format(n); image != nil || e != api.ErrArg {
			t.Errorf("P1, P3: Format(%d) = %d words, %d, want nil, ErrArg", n, len(image), e)
		}
	}
}

func TestFormatAnswersShareNoMemory(t *testing.T) {
	for _, n := range []int{1, 2, 32} {
		a, _ := cairn.Format(n)
		b, _ := cairn.Format(n)
		want := slices.Clone(b)
		for _, l := range [][]uint64{a[:cap(a)], b[len(b):cap(b)]} {
			for i := range l {
				l[i] = full
			}
		}
		if !slices.Equal(b, want) {
			t.Errorf("P2: Format(%d): an answer is changed through another one", n)
		}
		for i, word := range a[:cap(a)] {
			if word != full {
				t.Errorf("P2: Format(%d): word %d is changed through another answer", n, i)
			}
		}
		if c, _ := cairn.Format(n); !slices.Equal(c, want) {
			t.Errorf("P2: Format(%d) hangs on what was done with an earlier answer", n)
		}
	}
}
