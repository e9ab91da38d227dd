package cairn_test

import (
	"math/rand"
	"reflect"
	"slices"
	"testing"

	"cairn/api"
	"cairn/cairn"
)

// crashed tells what may be there when the machine stops behind so many of the
// stores: of those behind the last flush some are lost, by chance.
func crashed(r *rand.Rand, image []uint64, stores []api.Store) []uint64 {
	flushed := 0
	for i, s := range stores {
		if s.Kind == api.Flush {
			flushed = i
		}
	}
	image = over(image, stores[:flushed])
	chance := r.Intn(5)
	for _, s := range stores[flushed:] {
		if s.Kind == api.Put && r.Intn(4) < chance {
			image[s.At] = s.Value
		}
	}
	return image
}

// wantEither asks that a heap with these words has one of two states, also if
// the machine stops again while it is opened.
func wantEither(t *testing.T, r *rand.Rand, image []uint64, before, after any) {
	t.Helper()
	heap := opened(t, image)
	if s := state(heap); !reflect.DeepEqual(s, before) && !reflect.DeepEqual(s, after) {
		t.Fatalf("P9: Objects and roots are neither those ahead of the commit nor behind it: %v", s)
	}
	stores := heap.Stores()
	for k := range stores {
		again := opened(t, crashed(r, image, stores[:k]))
		want(t, "P9: Objects and roots when it is opened again", state(again), state(heap))
	}
}

func TestACrashLosesNoCommit(t *testing.T) {
	r := rand.New(rand.NewSource(5))
	commits := 0
	for range 60 {
		image := sane(r)
		m := &model{kept: slices.Clone(image), now: slices.Clone(image)}
		heap := opened(t, image)
		before := state(heap)
		for range 80 {
			m.step(t, r, heap)
			stores := heap.Stores()
			if len(stores) == 0 {
				continue
			}
			commits++
			after := state(heap)
			for k := range len(stores) + 1 {
				wantEither(t, r, crashed(r, image, stores[:k]), before, after)
			}
			want(t, "P9: Objects and roots behind all stores", state(opened(t, over(image, stores))), after)
			before, image = after, heap.Image()
		}
	}
	if commits < 50 {
		t.Errorf("there were only %d commits", commits)
	}
}

func TestRepairBehindACrash(t *testing.T) {
	r := rand.New(rand.NewSource(6))
	for range 100 {
		image := sane(r)
		heap := opened(t, image)
		for i := range 4 {
			handle, _ := heap.Alloc(1, 1)
			heap.SetRoot(i, handle)
		}
		heap.Commit()
		stores := heap.Stores()
		for k := range len(stores) + 1 {
			words := crashed(r, image, stores[:k])
			mended, e := cairn.Repair(words)
			want(t, "P9: Repair", e, api.OK)
			wantCheck(t, "behind a crash", mended, api.OK, 0)
			again, _ := cairn.Repair(mended)
			want(t, "P9: Repair again", again, mended)
			_, _, reached := survey(opened(t, words).Image())
			for _, object := range opened(t, mended).Objects() {
				delete(reached, uint64(object.Handle))
			}
			want(t, "P9: objects that are reached, but not there", len(reached), 0)
		}
	}
}
