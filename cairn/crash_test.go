package cairn_test

import (
	"math/rand"
	"reflect"
	"slices"
	"testing"

	"cairn/api"
	"cairn/cairn"
)

// settled is how many of the stores are there for ever: up to the last flush.
func settled(stores []api.Store) int {
	count := 0
	for i, s := range stores {
		if s.Kind == api.Flush {
			count = i + 1
		}
	}
	return count
}

// crashed tells what may be there when the machine stops behind these stores:
// of those behind the last flush some are lost, by chance.
func crashed(r *rand.Rand, image []uint64, stores []api.Store) []uint64 {
	kept := settled(stores)
	chance := r.Intn(5)
	return left(image, stores, kept, func(int) bool { return r.Intn(4) < chance })
}

// left is the image with all stores that are settled, and of the others those
// that stayed.
func left(image []uint64, stores []api.Store, kept int, stayed func(i int) bool) []uint64 {
	image = over(image, stores[:kept])
	for i, s := range stores[kept:] {
		if stayed(i) {
			image = over(image, []api.Store{s})
		}
	}
	return image
}

// rows tells each row of stores from flush to flush, as a machine has it that
// stops at the row's end, and how many of its stores are settled. What an
// earlier stop within the row leaves may be left here too.
func rows(stores []api.Store, tell func(stores []api.Store, kept int)) {
	for k := range len(stores) + 1 {
		if k == len(stores) || stores[k].Kind == api.Flush {
			tell(stores[:k], settled(stores[:k]))
		}
	}
}

// everyLoss tells all that may be left, wherever the machine stops within the
// stores and whichever are lost.
func everyLoss(image []uint64, stores []api.Store, tell func(words []uint64)) {
	rows(stores, func(stores []api.Store, kept int) {
		for set := range 1 << (len(stores) - kept) {
			tell(left(image, stores, kept, func(i int) bool { return set>>i&1 == 1 }))
		}
	})
}

// someLoss tells what is left if one store alone is lost or stays, or all up
// to one, or all from one on: for rows too long for everyLoss.
func someLoss(image []uint64, stores []api.Store, tell func(words []uint64)) {
	rows(stores, func(stores []api.Store, kept int) {
		for one := range len(stores) - kept + 1 {
			for _, stayed := range []func(int) bool{
				func(i int) bool { return i == one },
				func(i int) bool { return i != one },
				func(i int) bool { return i < one },
				func(i int) bool { return i >= one },
			} {
				tell(left(image, stores, kept, stayed))
			}
		}
	})
}

// wantSafe asks all of P9 of words that a stop has left, and tells the state
// that they have.
func wantSafe(t *testing.T, words []uint64, before, after any) any {
	t.Helper()
	heap, e := cairn.Open(words)
	if heap == nil || e != api.OK {
		t.Fatalf("P9: Open of what is left = %d", e)
	}
	now := state(heap)
	if !reflect.DeepEqual(now, before) && !reflect.DeepEqual(now, after) {
		t.Fatalf("P9: Objects and roots are %v, neither those ahead of the commit, %v, nor behind it, %v", now, before, after)
	}
	wantMended(t, words, heap)
	return now
}

// wantMended asks that Repair of words gives what a heap opened from them has,
// but for the objects that are not reached, and that once is enough.
func wantMended(t *testing.T, words []uint64, heap *cairn.Heap) {
	t.Helper()
	mended, e := cairn.Repair(words)
	if e != api.OK {
		t.Fatalf("P9: Repair of what is left = %d", e)
	}
	wantCheck(t, "what is left, mended", mended, api.OK, 0)
	want(t, "P9: Objects and roots of what is mended", state(opened(t, mended)), reachedState(heap))
	if again, e := cairn.Repair(mended); e != api.OK || !slices.Equal(again, mended) {
		t.Fatalf("P9: Repair of what is mended = %d, or other words", e)
	}
}

// reachedState is the state of a heap without the objects that are not
// reached.
func reachedState(heap *cairn.Heap) any {
	_, _, reached := survey(heap.Image())
	var objects []api.Object
	for _, object := range heap.Objects() {
		if reached[uint64(object.Handle)] == 1 {
			objects = append(objects, object)
		}
	}
	return [2]any{objects, state(heap).([2]any)[1]}
}

// moment is what a heap had when so many stores were made.
type moment struct {
	stores int
	state  any
}

// life is a heap from its Open on: what it put, and what it had behind Open
// and behind each Commit that put something.
type life struct {
	image  []uint64
	stores []api.Store
	had    []moment
}

// note takes in what a heap has put since.
func (l *life) note(heap *cairn.Heap) {
	l.stores = append(l.stores, heap.Stores()...)
	l.had = append(l.had, moment{len(l.stores), state(heap)})
}

// around is the states of which one must be left behind so many stores: those
// ahead of the Commit that was going on and behind it; if none was going on,
// there is but one.
func (l *life) around(stores int) (before, after any) {
	done := 0
	for done < len(l.had) && l.had[done].stores <= stores {
		done++
	}
	if done == 0 {
		return l.had[0].state, l.had[0].state
	}
	last := l.had[done-1]
	if last.stores == stores {
		return last.state, last.state
	}
	return last.state, l.had[done].state
}

// live lets a heap with this image do some things at random.
func live(t *testing.T, r *rand.Rand, image []uint64, steps int) *life {
	t.Helper()
	heap := opened(t, image)
	m := &model{kept: heap.Image(), now: heap.Image()}
	l := &life{image: image}
	l.note(heap)
	for range steps {
		if name, e := m.step(t, r, heap); name == "Commit" && e == api.OK {
			l.note(heap)
		}
	}
	return l
}

func TestAStopLosesNoCommit(t *testing.T) {
	r := rand.New(rand.NewSource(5))
	behind, ahead := 0, 0
	for range 60 {
		l := live(t, r, sane(r), 80)
		for k := range len(l.stores) + 1 {
			before, after := l.around(k)
			words := crashed(r, l.image, l.stores[:k])
			now := wantSafe(t, words, before, after)
			switch {
			case reflect.DeepEqual(before, after):
			case reflect.DeepEqual(now, before):
				ahead++
			default:
				behind++
			}
		}
	}
	if ahead < 100 || behind < 100 {
		t.Errorf("only %d stops left what was ahead of a commit, and %d what was behind it", ahead, behind)
	}
}

func TestAStopWithinAnOpenBehindAStop(t *testing.T) {
	r := rand.New(rand.NewSource(8))
	again := 0
	for range 60 {
		l := live(t, r, sane(r), 40)
		for k := range len(l.stores) + 1 {
			words := crashed(r, l.image, l.stores[:k])
			heap := opened(t, words)
			now, stores := state(heap), heap.Stores()
			for k := range len(stores) + 1 {
				again++
				wantSafe(t, crashed(r, words, stores[:k]), now, now)
			}
		}
	}
	if again < 1000 {
		t.Errorf("there were only %d stops", again)
	}
}

// The words that one stop leaves are those that the next heap is opened from,
// with whatever is in its log.
func TestLivesThatEndInStops(t *testing.T) {
	r := rand.New(rand.NewSource(7))
	redone := 0
	for range 50 {
		words := sane(r)
		for range 25 {
			l := live(t, r, words, 30)
			if l.had[0].stores > 0 {
				redone++
			}
			k := r.Intn(len(l.stores) + 1)
			before, after := l.around(k)
			words = crashed(r, l.image, l.stores[:k])
			wantSafe(t, words, before, after)
		}
	}
	if redone < 100 {
		t.Errorf("only %d times there was something in the log", redone)
	}
}

// committed lets a heap do something and commit it.
func committed(t *testing.T, image []uint64, do func(heap *cairn.Heap)) *life {
	t.Helper()
	heap := opened(t, image)
	l := &life{image: image}
	l.note(heap)
	do(heap)
	want(t, "P8: Commit", heap.Commit(), api.OK)
	l.note(heap)
	return l
}

// chained is an image with four objects: 1 holds 3, 3 holds itself, and 4 and
// 5 hold one another, but are not reached.
func chained() []uint64 {
	return laid(6, at{3: 1, 106: 1000101, 107: 3, 109: 8, 122: 1000101, 123: 3, 130: 1000102, 132: 5, 138: 1000201, 139: 4, 146: 77})
}

func TestEveryLossWithinACommit(t *testing.T) {
	for name, c := range map[string]struct {
		image []uint64
		do    func(heap *cairn.Heap)
	}{
		"the example": {laid(2, nil), func(heap *cairn.Heap) {
			heap.Alloc(1, 1)
			heap.SetRoot(0, 1)
			heap.Write(1, 0, 1)
		}},
		"other objects are reached": {chained(), func(heap *cairn.Heap) {
			heap.Write(1, 0, 0)
			heap.Write(3, 0, 0)
			heap.Free(3)
			heap.SetRoot(0, 4)
		}},
		"a header where a pointer was": {laid(2, at{3: 1, 106: 1000208, 114: 1}), func(heap *cairn.Heap) {
			heap.SetRoot(0, 0)
			heap.Write(1, 7, 0)
			heap.Free(1)
			heap.Alloc(1, 0)
			heap.Alloc(1, 0)
		}},
		"one more of 2 to the 64th commits": {laid(2, at{2: full, 106: one}), func(heap *cairn.Heap) {
			heap.SetRoot(3, 1)
		}},
		"what an older log has left": {withLog(laid(2, at{106: one}), 0, 106, 7, 3, 9, 8, 1), func(heap *cairn.Heap) {
			heap.SetRoot(3, 1)
			heap.Write(1, 6, 1)
		}},
	} {
		t.Run(name, func(t *testing.T) {
			l := committed(t, c.image, c.do)
			before, after := l.had[0].state, l.had[1].state
			seen := [2]int{}
			everyLoss(l.image, l.stores, func(words []uint64) {
				if reflect.DeepEqual(wantSafe(t, words, before, after), before) {
					seen[0]++
				} else {
					seen[1]++
				}
			})
			if seen[0] == 0 || seen[1] == 0 {
				t.Errorf("P9: %d times it was as ahead of the commit, %d times as behind it", seen[0], seen[1])
			}
			wantSafe(t, over(l.image, l.stores), after, after)
		})
	}
}

func TestEveryLossWithinAnOpen(t *testing.T) {
	two9 := cairn.Sum([]uint64{api.Magic, 2, 9, 1, 0, 0, 2})
	three := cairn.Sum([]uint64{api.Magic, 3, 0, 2, 0, 0, 0})
	for name, image := range map[string][]uint64{
		"a place twice":            withLog(laid(2, at{3: 1, 106: one}), 4, 107, 9, 108, 2, 107, 1, 106, 1000101),
		"a head that it mends":     withLog(laid(2, at{0: 5, 1: 1, 7: 3}), 9, 0, api.Magic, 1, 2, 2, 9, 3, 1, 6, 2, 7, two9, 106, one, 114, 5, 114, 1000101),
		"blocks that it mends":     withLog(laid(3, at{3: 3, 106: 7, 114: 8, 122: 9}), 4, 106, 0, 114, two, 3, 2, 7, three),
		"an object that is leaked": withLog(laid(3, nil), 2, 106, 1000201, 107, 1),
	} {
		t.Run(name, func(t *testing.T) {
			heap := opened(t, image)
			now := state(heap)
			everyLoss(image, heap.Stores(), func(words []uint64) { wantSafe(t, words, now, now) })
		})
	}
}

func TestLossesWithinTheLongestCommit(t *testing.T) {
	image := laid(32, at{4: 1, 5: 5, 106: 1000431, 138: 1000400})
	l := committed(t, image, func(heap *cairn.Heap) {
		for i := range 31 {
			heap.Write(1, i, 5)
		}
		for i := range 14 {
			heap.Write(5, i, full)
		}
		heap.SetRoot(0, 1)
	})
	want(t, "P8: the number of stores", len(l.stores), 3*48+7)
	before, after := l.had[0].state, l.had[1].state
	someLoss(image, l.stores, func(words []uint64) { wantSafe(t, words, before, after) })
	wantSafe(t, over(image, l.stores), after, after)
}

// What was changed and not committed is in none of the stores.
func TestAStopLeavesNothingUncommitted(t *testing.T) {
	l := committed(t, chained(), func(heap *cairn.Heap) {
		heap.Write(1, 2, 6)
		heap.Rollback()
		heap.Write(3, 2, 5)
	})
	heap := opened(t, over(l.image, l.stores))
	before := state(heap)
	for i := range 4 {
		heap.SetRoot(i, 5)
	}
	heap.Write(1, 0, 4)
	wantSafe(t, over(heap.Image(), heap.Stores()), before, before)
	// Nor is there anything of a commit that is too long for the log.
	heap = opened(t, laid(8, at{3: 1, 4: 5, 106: 1000400, 138: 1000400}))
	before = state(heap)
	for i := range 47 {
		heap.Write(1+i/31*4, i%31, 5)
	}
	want(t, "P8: Commit of too much", heap.Commit(), api.ErrLog)
	wantSafe(t, over(heap.Image(), heap.Stores()), before, before)
}
