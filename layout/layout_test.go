package layout

import (
	"testing"

	"cairn/api"
)

func TestNewHead(t *testing.T) {
	want := Head{20261114, 1, 0, 0, 0, 0, 0, 0x5a129ec65c23fbdb}
	if h := NewHead(1); h != want {
		t.Errorf("P3: NewHead(1) = %x, want %x", h, want)
	}
}

func TestSealed(t *testing.T) {
	right := NewHead(3)
	if right.Sealed() != right {
		t.Error("P3: a head whose sum is right is another one when it is sealed")
	}
	for place := range api.Head {
		wrong := right
		wrong[place] ^= 1 << 63
		before := wrong
		sealed := wrong.Sealed()
		if wrong != before {
			t.Errorf("P2: word %d: sealing wrote into the head it was asked of", place)
		}
		if place == SumPlace && sealed != right {
			t.Errorf("P3: sealing did not mend the sum: %x", sealed)
		}
		if place != SumPlace && (sealed[SumPlace] == right[SumPlace] || sealed[place] != wrong[place]) {
			t.Errorf("P3: word %d is not in the sum, or was changed: %x", place, sealed)
		}
	}
}

func TestFits(t *testing.T) {
	for n := -40; n <= 80; n++ {
		if want := n >= 1 && n <= 32; Fits(n) != want {
			t.Errorf("P3: Fits(%d) = %t", n, !want)
		}
	}
}

func TestLength(t *testing.T) {
	for n, want := range map[int]int{1: 114, 2: 122, 31: 354, 32: 362} {
		if l := Length(n); l != want {
			t.Errorf("P3: Length(%d) = %d, want %d", n, l, want)
		}
	}
}
