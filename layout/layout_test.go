package layout

import (
	"testing"

	"cairn/api"
	"cairn/words"
)

func TestNewHead(t *testing.T) {
	want := Head{20261114, 1, 0, 0, 0, 0, 0, 0x5a129ec65c23fbdb}
	if h := NewHead(1); h != want {
		t.Errorf("P3: NewHead(1) = %x, want %x", h, want)
	}
}

func TestSealed(t *testing.T) {
	right := NewHead(3)
	if right.Sealed() != right {
		t.Error("P3: a head whose sum is right is another one when it is sealed")
	}
	for place := range api.Head {
		wrong := right
		wrong[place] ^= 1 << 63
		before := wrong
		sealed := wrong.Sealed()
		if wrong != before {
			t.Errorf("P2: word %d: sealing wrote into the head it was asked of", place)
		}
		if place == SumPlace && sealed != right {
			t.Errorf("P3: sealing did not mend the sum: %x", sealed)
		}
		if place != SumPlace && (sealed[SumPlace] == right[SumPlace] || sealed[place] != wrong[place]) {
			t.Errorf("P3: word %d is not in the sum, or was changed: %x", place, sealed)
		}
	}
}

func TestFits(t *testing.T) {
	for n := -40; n <= 80; n++ {
		if want := n >= 1 && n <= 32; Fits(n) != want {
			t.Errorf("P3: Fits(%d) = %t", n, !want)
		}
	}
}

func TestLength(t *testing.T) {
	for n, want := range map[int]int{1: 114, 2: 122, 31: 354, 32: 362} {
		if l := Length(n); l != want {
			t.Errorf("P3: Length(%d) = %d, want %d", n, l, want)
		}
	}
}

func TestShaped(t *testing.T) {
	for length := -600; length <= 600; length++ {
		want := length >= 114 && length <= 362 && length%8 == 2
		if Shaped(length) != want {
			t.Errorf("P4: Shaped(%d) = %t", length, !want)
		}
	}
	for n := 1; n <= 32; n++ {
		if b := Blocks(Length(n)); b != n {
			t.Errorf("P4: an image of %d blocks has %d by its words", n, b)
		}
	}
}

func TestBlockPlace(t *testing.T) {
	for block, want := range map[int]int{1: 106, 2: 114, 32: 354} {
		if p := BlockPlace(block); p != want {
			t.Errorf("P4: block %d is at %d, want %d", block, p, want)
		}
	}
}

func TestLogged(t *testing.T) {
	for place, want := range map[uint64]bool{0: true, 7: true, 8: false, 105: false, 106: true, 113: true, 114: false, 1 << 63: false, 1<<64 - 1: false} {
		if Logged(place, 114) != want {
			t.Errorf("P6: Logged(%d) = %t", place, !want)
		}
	}
}

func TestFittedAndHeadOf(t *testing.T) {
	row := words.Kept{5, 6, 9, 1, 0, 3, 0, 4, 99, 99}
	if h := HeadOf(row); h != (Head{5, 6, 9, 1, 0, 3, 0, 4}) {
		t.Errorf("P4: HeadOf = %v", h)
	}
	want := Head{20261114, 3, 9, 1, 0, 3, 0, 0xb48bc745ae844d29}
	if h := HeadOf(row).Fitted(3); h != want {
		t.Errorf("P4: Fitted = %x, want %x", h, want)
	}
}

func TestParseHeader(t *testing.T) {
	for span := -1; span < 12; span++ {
		for pointers := range 100 {
			word := uint64(1000000 + 100*span + pointers)
			s, p, ok := ParseHeader(word)
			want := span >= 1 && span <= 4 && pointers <= 8*span-1
			if ok != want || ok && (s != span || p != pointers) || !ok && (s != 0 || p != 0) {
				t.Errorf("P4: ParseHeader(%d) = %d, %d, %t", word, s, p, ok)
			}
			if _, _, ok := ParseHeader(word + 1<<63); ok {
				t.Errorf("P4: ParseHeader(%d) is ok", word+1<<63)
			}
		}
	}
}

func TestHeader(t *testing.T) {
	for span := 1; span <= 4; span++ {
		for pointers := range 8 * span {
			s, p, ok := ParseHeader(Header(span, pointers))
			if !ok || s != span || p != pointers {
				t.Errorf("P7: the header of %d, %d is read as %d, %d, %t", span, pointers, s, p, ok)
			}
		}
	}
	if h := Header(2, 15); h != 1000215 {
		t.Errorf("P7: Header(2, 15) = %d", h)
	}
}

func TestProper(t *testing.T) {
	for span := -3; span < 9; span++ {
		for pointers := -3; pointers < 80; pointers++ {
			if want := span >= 1 && span <= 4 && pointers >= 0 && pointers < 8*span; Proper(span, pointers) != want {
				t.Errorf("P7: Proper(%d, %d) = %t", span, pointers, !want)
			}
		}
	}
}

func TestIsRoot(t *testing.T) {
	for i := -5; i < 10; i++ {
		if want := i >= 0 && i < 4; IsRoot(i) != want {
			t.Errorf("P7: IsRoot(%d) = %t", i, !want)
		}
	}
}

func TestNext(t *testing.T) {
	h := Head{20261114, 2, 0, 1, 0, 0, 0, 0}
	if next := h.Next(); next != (Head{20261114, 2, 1, 1, 0, 0, 0, 0x1ba94df0e5992e60}) {
		t.Errorf("P8: the next head is %x", next)
	}
	last := Head{20261114, 1, 1<<64 - 1, 0, 0, 0, 0, 0}
	if next := last.Next(); next != (Head{20261114, 1, 0, 0, 0, 0, 0, 0x5a129ec65c23fbdb}) {
		t.Errorf("P8: the head behind the last number is %x", next)
	}
}
